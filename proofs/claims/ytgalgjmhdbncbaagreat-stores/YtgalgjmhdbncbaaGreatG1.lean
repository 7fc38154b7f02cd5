import Derived.Test.YtgalgjmhdbncbaaGreatA5
namespace Go.Proofs.YtgalgjmhdbncbaaGreat
open Go.RowKit
/-- new memory of bytes 0 -/
def Al (t : TypeId) : Sem Value := Instr.alloc t true (.tuple #[])
theorem al40 : Instr.alloc 145 true (.tuple #[]) = Al 145 := rfl
theorem al50 : Instr.alloc 206 true (.tuple #[]) = Al 206 := rfl
theorem al60 : Instr.alloc 217 true (.tuple #[]) = Al 217 := rfl
theorem al62 : Instr.alloc 219 true (.tuple #[]) = Al 219 := rfl
theorem al63 : Instr.alloc 220 true (.tuple #[]) = Al 220 := rfl
theorem al52 : Instr.alloc 208 true (.tuple #[]) = Al 208 := rfl
theorem run_al40 (w : World) : Sem.run Tryz.prog (Al 145) w = .ok (.pointer (some ⟨w.heap.size, 0, none⟩)) (w.alloc (.cells (arr 16 z8) 145)) := by kernel_rfl
theorem run_al63 (w : World) : Sem.run Tryz.prog (Al 220) w = .ok (.pointer (some ⟨w.heap.size, 0, none⟩)) (w.alloc (.cells (arr 4 z8) 220)) := by kernel_rfl
theorem run_al50 (w : World) : Sem.run Tryz.prog (Al 206) w = .ok (.pointer (some ⟨w.heap.size, 0, none⟩)) (w.alloc (.cells (arr 256 z8) 206)) := by kernel_rfl
theorem run_al60 (w : World) : Sem.run Tryz.prog (Al 217) w = .ok (.pointer (some ⟨w.heap.size, 0, none⟩)) (w.alloc (.cells (arr 255 z8) 217)) := by kernel_rfl
theorem run_al62 (w : World) : Sem.run Tryz.prog (Al 219) w = .ok (.pointer (some ⟨w.heap.size, 0, none⟩)) (w.alloc (.cells (arr 240 z8) 219)) := by kernel_rfl
theorem run_al52 (w : World) : Sem.run Tryz.prog (Al 208) w = .ok (.pointer (some ⟨w.heap.size, 0, none⟩)) (w.alloc (.cells (arr 240 z8) 208)) := by kernel_rfl

def Bd (t : TypeId) (ps : Array (Nat × Value)) : Sem Value := Instr.build t ps
theorem bd50 (ps : Array (Nat × Value)) : Instr.build 206 ps = Bd 206 ps := rfl
theorem bd55 (ps : Array (Nat × Value)) : Instr.build 211 ps = Bd 211 ps := rfl
theorem run_bd50 (b : UInt8) (w : World) : Sem.run Tryz.prog (Bd 206 #[(0, .int .u8 b.toNat)]) w = .ok (.agg (arr 256 (by8 fun j => if j = 0 then b else 0))) w := by kernel_rfl
/-- a cipher's cells -/
def ciph (r : Nat) (ks bx : Nat → UInt8) (j : Nat) : Value := if j = 0 then .int .i64 r else if j < 241 then by8 ks (j - 1) else by8 bx (j - 241)
theorem run_bd55 (r : Nat) (ks bx : Nat → UInt8) (w : World) : Sem.run Tryz.prog (Bd 211 #[(0, .int .i64 r), (1, .agg (arr 240 (by8 ks))), (2, .agg (arr 256 (by8 bx)))]) w = .ok (.agg (arr 497 (ciph r ks bx))) w := by kernel_rfl
end Go.Proofs.YtgalgjmhdbncbaaGreat
