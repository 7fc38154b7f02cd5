import Derived.Test.YtgalgjmhdbncbaaA5
namespace Go.Proofs.Ytgalgjmhdbncbaa
open Go.RowKit
/-- new memory of bytes 0 -/
def Al (t : TypeId) : Sem Value := Instr.alloc t true (.tuple #[])
theorem al40 : Instr.alloc 53 true (.tuple #[]) = Al 53 := rfl
theorem al50 : Instr.alloc 78 true (.tuple #[]) = Al 78 := rfl
theorem al60 : Instr.alloc 104 true (.tuple #[]) = Al 104 := rfl
theorem al62 : Instr.alloc 106 true (.tuple #[]) = Al 106 := rfl
theorem al63 : Instr.alloc 107 true (.tuple #[]) = Al 107 := rfl
theorem al52 : Instr.alloc 80 true (.tuple #[]) = Al 80 := rfl
theorem run_al40 (w : World) : Sem.run Try.prog (Al 53) w = .ok (.pointer (some ⟨w.heap.size, 0, none⟩)) (w.alloc (.cells (arr 16 z8) 53)) := by kernel_rfl
theorem run_al63 (w : World) : Sem.run Try.prog (Al 107) w = .ok (.pointer (some ⟨w.heap.size, 0, none⟩)) (w.alloc (.cells (arr 4 z8) 107)) := by kernel_rfl
theorem run_al50 (w : World) : Sem.run Try.prog (Al 78) w = .ok (.pointer (some ⟨w.heap.size, 0, none⟩)) (w.alloc (.cells (arr 256 z8) 78)) := by kernel_rfl
theorem run_al60 (w : World) : Sem.run Try.prog (Al 104) w = .ok (.pointer (some ⟨w.heap.size, 0, none⟩)) (w.alloc (.cells (arr 255 z8) 104)) := by kernel_rfl
theorem run_al62 (w : World) : Sem.run Try.prog (Al 106) w = .ok (.pointer (some ⟨w.heap.size, 0, none⟩)) (w.alloc (.cells (arr 240 z8) 106)) := by kernel_rfl
theorem run_al52 (w : World) : Sem.run Try.prog (Al 80) w = .ok (.pointer (some ⟨w.heap.size, 0, none⟩)) (w.alloc (.cells (arr 240 z8) 80)) := by kernel_rfl

def Bd (t : TypeId) (ps : Array (Nat × Value)) : Sem Value := Instr.build t ps
theorem bd50 (ps : Array (Nat × Value)) : Instr.build 78 ps = Bd 78 ps := rfl
theorem bd55 (ps : Array (Nat × Value)) : Instr.build 83 ps = Bd 83 ps := rfl
theorem run_bd50 (b : UInt8) (w : World) : Sem.run Try.prog (Bd 78 #[(0, .int .u8 b.toNat)]) w = .ok (.agg (arr 256 (by8 fun j => if j = 0 then b else 0))) w := by kernel_rfl
/-- a cipher's cells -/
def ciph (r : Nat) (ks bx : Nat → UInt8) (j : Nat) : Value := if j = 0 then .int .i64 r else if j < 241 then by8 ks (j - 1) else by8 bx (j - 241)
theorem run_bd55 (r : Nat) (ks bx : Nat → UInt8) (w : World) : Sem.run Try.prog (Bd 83 #[(0, .int .i64 r), (1, .agg (arr 240 (by8 ks))), (2, .agg (arr 256 (by8 bx)))]) w = .ok (.agg (arr 497 (ciph r ks bx))) w := by kernel_rfl
end Go.Proofs.Ytgalgjmhdbncbaa
