import Derived.Test.YtgalgjmhdbncbaaQ1
import Derived.ProofKit
import Derived.OpenShut
import Derived.ShutString
namespace Go.Proofs.Ytgalgjmhdbncbaa
open Go.ChangeShapes Go.WideShapes Go.ChangeAt Go.RowKit
open Go.ChangeMaps (open_string shut_string)

def recD (H : Type) (a i : Int) (n b t : ByteArray) : DataW H := .agg [.lit (.int .i64 a), .lit (.int .i64 i), .lit (.string n.data.toList), .lit (.string b.data.toList), .lit (.string t.data.toList)]
theorem cells41 : Try.prog.cellsOf 41 = 5 := by kernel_rfl
theorem cells3 : Try.prog.cellsOf 3 = 1 := by kernel_rfl
theorem cells9 : Try.prog.cellsOf 9 = 1 := by kernel_rfl
theorem five_of {cs : Array Value} (h : cs.size = 5) : ∃ c0 c1 c2 c3 c4, cs = #[c0, c1, c2, c3, c4] := by
  refine ⟨cs[0], cs[1], cs[2], cs[3], cs[4], ?_⟩
  apply Array.ext
  · exact h
  · intro i h1 h2
    have : i < 5 := by omega
    rcases (by omega : i = 0 ∨ i = 1 ∨ i = 2 ∨ i = 3 ∨ i = 4) with rfl | rfl | rfl | rfl | rfl <;> rfl
set_option maxRecDepth 100000 in
theorem open_rec {H : Type} {enc : TypeId × Value → H} {W : World} {base : Nat} {sp : Nat → Bool} {held : Bool} {r : Reach} {b0 : Nat} {v : Value} {d : DataW H} {ps : List MemPlace}
    (hval : Value.okWide Try.prog W r b0 41 v) (hd : DataW.Trod enc Try.prog W base sp held 41 v d ps) :
    ∃ (a i : Int) (n b t : ByteArray), v = recV a i n b t ∧ d = recD H a i n b t ∧ ps = [] ∧ (Lit.int .i64 a).wf = true ∧ (Lit.int .i64 i).wf = true ∧ n.size ≤ maxLen ∧ b.size ≤ maxLen ∧ t.size ≤ maxLen := by
  obtain ⟨cs, rfl, hcs⟩ := okWide_struct Try.underlying41 hval
  rw [cells41] at hcs
  obtain ⟨c0, c1, c2, c3, c4, rfl⟩ := five_of hcs
  obtain ⟨fuel, hf⟩ := hd
  obtain ⟨xs, m, rfl, hx, _, hl, hall⟩ := DataW.trod_struct Try.underlying41 hf
  have h0 := hall 0 _ rfl
  have h1 := hall 1 _ rfl
  have h2 := hall 2 _ rfl
  have h3 := hall 3 _ rfl
  have h4 := hall 4 _ rfl
  match xs, hl with
  | [x0, x1, x2, x3, x4], _ =>
    have h0 : DataW.trod enc Try.prog W base sp held m 3 [c0] = some x0 := h0
    have h1 : DataW.trod enc Try.prog W base sp held m 3 [c1] = some x1 := h1
    have h2 : DataW.trod enc Try.prog W base sp held m 9 [c2] = some x2 := h2
    have h3 : DataW.trod enc Try.prog W base sp held m 9 [c3] = some x3 := h3
    have h4 : DataW.trod enc Try.prog W base sp held m 9 [c4] = some x4 := h4
    obtain ⟨a, e0, hx0, hw0⟩ := DataW.trod_int Try.underlying3 h0
    obtain ⟨i, e1, hx1, hw1⟩ := DataW.trod_int Try.underlying3 h1
    obtain ⟨n, e2, hx2, hw2⟩ := DataW.trod_string Try.underlying9 h2
    obtain ⟨b, e3, hx3, hw3⟩ := DataW.trod_string Try.underlying9 h3
    obtain ⟨t, e4, hx4, hw4⟩ := DataW.trod_string Try.underlying9 h4
    simp only [List.cons.injEq, and_true] at e0 e1 e2 e3 e4
    subst e0 e1 e2 e3 e4 hx0 hx1 hx2 hx3 hx4
    simp only [Prod.mk.injEq] at hx
    exact ⟨a, i, n, b, t, rfl, hx.1, hx.2, hw0, hw1, hw2, hw3, hw4⟩
set_option maxRecDepth 100000 in
theorem shut_rec {H : Type} {enc : TypeId × Value → H} {W : World} {base : Nat} {sp : Nat → Bool} {held : Bool} {a i : Int} {n b t : ByteArray}
    (w0 : (Lit.int .i64 a).wf = true) (w1 : (Lit.int .i64 i).wf = true) (w2 : n.size ≤ maxLen) (w3 : b.size ≤ maxLen) (w4 : t.size ≤ maxLen) : DataW.Trod enc Try.prog W base sp held 41 (recV a i n b t) (recD H a i n b t) [] := by
  refine ⟨2, ?_⟩
  unfold recV recD
  simp [DataW.trod, Value.cells, Try.underlying41, Try.underlying3, Try.underlying9, cells41, cells3, cells9, w0, w1, w2, w3, w4]
end Go.Proofs.Ytgalgjmhdbncbaa
