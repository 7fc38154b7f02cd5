import Derived.Test.YtleofjofggaopaaA5
namespace Go.Proofs.Ytleofjofggaopaa
open Go.RowKit
/-- new memory of bytes 0 -/
def Al (t : TypeId) : Sem Value := Instr.alloc t true (.tuple #[])
theorem al40 : Instr.alloc 40 true (.tuple #[]) = Al 40 := rfl
theorem al50 : Instr.alloc 50 true (.tuple #[]) = Al 50 := rfl
theorem al60 : Instr.alloc 60 true (.tuple #[]) = Al 60 := rfl
theorem al62 : Instr.alloc 62 true (.tuple #[]) = Al 62 := rfl
theorem al63 : Instr.alloc 63 true (.tuple #[]) = Al 63 := rfl
theorem al52 : Instr.alloc 52 true (.tuple #[]) = Al 52 := rfl
theorem run_al40 (w : World) : Sem.run Try.prog (Al 40) w = .ok (.pointer (some ⟨w.heap.size, 0, none⟩)) (w.alloc (.cells (arr 16 z8) 40)) := by kernel_rfl
theorem run_al63 (w : World) : Sem.run Try.prog (Al 63) w = .ok (.pointer (some ⟨w.heap.size, 0, none⟩)) (w.alloc (.cells (arr 4 z8) 63)) := by kernel_rfl
theorem run_al50 (w : World) : Sem.run Try.prog (Al 50) w = .ok (.pointer (some ⟨w.heap.size, 0, none⟩)) (w.alloc (.cells (arr 256 z8) 50)) := by kernel_rfl
theorem run_al60 (w : World) : Sem.run Try.prog (Al 60) w = .ok (.pointer (some ⟨w.heap.size, 0, none⟩)) (w.alloc (.cells (arr 255 z8) 60)) := by kernel_rfl
theorem run_al62 (w : World) : Sem.run Try.prog (Al 62) w = .ok (.pointer (some ⟨w.heap.size, 0, none⟩)) (w.alloc (.cells (arr 240 z8) 62)) := by kernel_rfl
theorem run_al52 (w : World) : Sem.run Try.prog (Al 52) w = .ok (.pointer (some ⟨w.heap.size, 0, none⟩)) (w.alloc (.cells (arr 240 z8) 52)) := by kernel_rfl

def Bd (t : TypeId) (ps : Array (Nat × Value)) : Sem Value := Instr.build t ps
theorem bd50 (ps : Array (Nat × Value)) : Instr.build 50 ps = Bd 50 ps := rfl
theorem bd55 (ps : Array (Nat × Value)) : Instr.build 55 ps = Bd 55 ps := rfl
theorem run_bd50 (b : UInt8) (w : World) : Sem.run Try.prog (Bd 50 #[(0, .int .u8 b.toNat)]) w = .ok (.agg (arr 256 (by8 fun j => if j = 0 then b else 0))) w := by kernel_rfl
/-- a cipher's cells -/
def ciph (r : Nat) (ks bx : Nat → UInt8) (j : Nat) : Value := if j = 0 then .int .i64 r else if j < 241 then by8 ks (j - 1) else by8 bx (j - 241)
theorem run_bd55 (r : Nat) (ks bx : Nat → UInt8) (w : World) : Sem.run Try.prog (Bd 55 #[(0, .int .i64 r), (1, .agg (arr 240 (by8 ks))), (2, .agg (arr 256 (by8 bx)))]) w = .ok (.agg (arr 497 (ciph r ks bx))) w := by kernel_rfl
end Go.Proofs.Ytleofjofggaopaa
