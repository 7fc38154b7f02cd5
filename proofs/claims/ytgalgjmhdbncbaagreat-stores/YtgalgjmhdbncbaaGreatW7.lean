import Derived.Test.YtgalgjmhdbncbaaGreatW5
import Derived.ProofKit
import Derived.OpenShut
import Derived.ShutString
import Derived.SizedLaws
import Derived.Deep.Slices
import Derived.Carry
namespace Go.Proofs.YtgalgjmhdbncbaaGreat
open Go.ChangeShapes Go.WideShapes Go.ChangeAt Go.RowKit

/-! ### a script as an argument -/
structure OpWf (o : OpA) : Prop where
  on : -9223372036854775808 ≤ o.on ∧ o.on ≤ 9223372036854775807
  a : -9223372036854775808 ≤ o.a ∧ o.a ≤ 9223372036854775807
  cs : -9223372036854775808 ≤ o.cs ∧ o.cs ≤ 9223372036854775807
  ca : -9223372036854775808 ≤ o.ca ∧ o.ca ≤ 9223372036854775807
  cm : -9223372036854775808 ≤ o.cm ∧ o.cm ≤ 9223372036854775807
  s : o.s.size ≤ 140737488351232
  t : o.t.size ≤ 140737488351232
  u : o.u.size ≤ 140737488351232
  v : o.v.size ≤ 140737488351232
  rn : o.rn.size ≤ 140737488351232
  rb : o.rb.size ≤ 140737488351232
  rt : o.rt.size ≤ 140737488351232
def opD (H : Type) (o : OpA) : DataW H := .agg [.lit (.int .i64 o.kind), .lit (.int .i64 o.on), .lit (.int .i64 o.a), .lit (.bool o.yes), .lit (.string o.s.data.toList), .lit (.string o.t.data.toList), .lit (.string o.u.data.toList), .lit (.string o.v.data.toList),
  .agg [.lit (.int .i64 o.cs), .lit (.int .i64 o.ca), .lit (.int .i64 o.cm)], .agg [.lit (.int .i64 o.ra), .lit (.int .i64 o.ri), .lit (.string o.rn.data.toList), .lit (.string o.rb.data.toList), .lit (.string o.rt.data.toList)]]
theorem cells54 : Tryz.prog.cellsOf 54 = 16 := by kernel_rfl
theorem bytes54 : Tryz.prog.bytesOf 54 = 184 := by kernel_rfl
theorem sixteen {cs : List Value} (h : cs.length = 16) : ∃ c0 c1 c2 c3 c4 c5 c6 c7 c8 c9 c10 c11 c12 c13 c14 c15, cs = [c0, c1, c2, c3, c4, c5, c6, c7, c8, c9, c10, c11, c12, c13, c14, c15] := by
  match cs, h with
  | [c0, c1, c2, c3, c4, c5, c6, c7, c8, c9, c10, c11, c12, c13, c14, c15], _ => exact ⟨c0, c1, c2, c3, c4, c5, c6, c7, c8, c9, c10, c11, c12, c13, c14, c15, rfl⟩
set_option maxRecDepth 100000 in
set_option maxHeartbeats 1000000 in
theorem open_op {H : Type} {enc : TypeId × Value → H} {W : World} {base : Nat} {sp : Nat → Bool} {held : Bool} {fuel : Nat} {cs : List Value} {x : DataW H × List MemPlace} (hc : cs.length = 16)
    (h : DataW.trod enc Tryz.prog W base sp held fuel 54 cs = some x) :
    ∃ o : OpA, cs = (opC o).toList ∧ x.1 = opD H o ∧ (Lit.int .i64 o.on).wf = true ∧ (Lit.int .i64 o.a).wf = true ∧ (Lit.int .i64 o.cs).wf = true ∧ (Lit.int .i64 o.ca).wf = true ∧ (Lit.int .i64 o.cm).wf = true := by
  obtain ⟨c0, c1, c2, c3, c4, c5, c6, c7, c8, c9, c10, c11, c12, c13, c14, c15, rfl⟩ := sixteen hc
  obtain ⟨xs, m, rfl, hx, _, hl, hall⟩ := DataW.trod_struct Tryz.underlying54 h
  have h0 := hall 0 _ rfl
  have h1 := hall 1 _ rfl
  have h2 := hall 2 _ rfl
  have h3 := hall 3 _ rfl
  have h4 := hall 4 _ rfl
  have h5 := hall 5 _ rfl
  have h6 := hall 6 _ rfl
  have h7 := hall 7 _ rfl
  have h8 := hall 8 _ rfl
  have h9 := hall 9 _ rfl
  match xs, hl with
  | [x0, x1, x2, x3, x4, x5, x6, x7, x8, x9], _ =>
    have h0 : DataW.trod enc Tryz.prog W base sp held m 3 [c0] = some x0 := h0
    have h1 : DataW.trod enc Tryz.prog W base sp held m 3 [c1] = some x1 := h1
    have h2 : DataW.trod enc Tryz.prog W base sp held m 3 [c2] = some x2 := h2
    have h3 : DataW.trod enc Tryz.prog W base sp held m 4 [c3] = some x3 := h3
    have h4 : DataW.trod enc Tryz.prog W base sp held m 9 [c4] = some x4 := h4
    have h5 : DataW.trod enc Tryz.prog W base sp held m 9 [c5] = some x5 := h5
    have h6 : DataW.trod enc Tryz.prog W base sp held m 9 [c6] = some x6 := h6
    have h7 : DataW.trod enc Tryz.prog W base sp held m 9 [c7] = some x7 := h7
    have h8 : DataW.trod enc Tryz.prog W base sp held m 50 [c8, c9, c10] = some x8 := h8
    have h9 : DataW.trod enc Tryz.prog W base sp held m 52 [c11, c12, c13, c14, c15] = some x9 := h9
    obtain ⟨k, e0, hx0, hw0⟩ := DataW.trod_int Tryz.underlying3 h0
    obtain ⟨on, e1, hx1, hw1⟩ := DataW.trod_int Tryz.underlying3 h1
    obtain ⟨a, e2, hx2, hw2⟩ := DataW.trod_int Tryz.underlying3 h2
    obtain ⟨y, e3, hx3⟩ := DataW.trod_bool Tryz.underlying4 h3
    obtain ⟨s, e4, hx4, hw4⟩ := DataW.trod_string Tryz.underlying9 h4
    obtain ⟨t, e5, hx5, hw5⟩ := DataW.trod_string Tryz.underlying9 h5
    obtain ⟨u, e6, hx6, hw6⟩ := DataW.trod_string Tryz.underlying9 h6
    obtain ⟨v, e7, hx7, hw7⟩ := DataW.trod_string Tryz.underlying9 h7
    obtain ⟨ys, m2, rfl, hy, _, hl2, hall2⟩ := DataW.trod_struct Tryz.underlying50 h8
    have g0 := hall2 0 _ rfl
    have g1 := hall2 1 _ rfl
    have g2 := hall2 2 _ rfl
    obtain ⟨zs, m3, e33, hz, _, hl3, hall3⟩ := DataW.trod_struct Tryz.underlying52 h9
    have f0 := hall3 0 _ rfl
    have f1 := hall3 1 _ rfl
    have f2 := hall3 2 _ rfl
    have f3 := hall3 3 _ rfl
    have f4 := hall3 4 _ rfl
    match ys, hl2, zs, hl3 with
    | [y0, y1, y2], _, [z0, z1, z2, z3, z4], _ =>
      have g0 : DataW.trod enc Tryz.prog W base sp held m2 3 [c8] = some y0 := g0
      have g1 : DataW.trod enc Tryz.prog W base sp held m2 3 [c9] = some y1 := g1
      have g2 : DataW.trod enc Tryz.prog W base sp held m2 3 [c10] = some y2 := g2
      have f0 : DataW.trod enc Tryz.prog W base sp held m3 3 [c11] = some z0 := f0
      have f1 : DataW.trod enc Tryz.prog W base sp held m3 3 [c12] = some z1 := f1
      have f2 : DataW.trod enc Tryz.prog W base sp held m3 9 [c13] = some z2 := f2
      have f3 : DataW.trod enc Tryz.prog W base sp held m3 9 [c14] = some z3 := f3
      have f4 : DataW.trod enc Tryz.prog W base sp held m3 9 [c15] = some z4 := f4
      obtain ⟨i8, e8, hx8, hw8⟩ := DataW.trod_int Tryz.underlying3 g0
      obtain ⟨i9, e9, hx9, hw9⟩ := DataW.trod_int Tryz.underlying3 g1
      obtain ⟨i10, e10, hx10, hw10⟩ := DataW.trod_int Tryz.underlying3 g2
      obtain ⟨i11, e11, hx11, hw11⟩ := DataW.trod_int Tryz.underlying3 f0
      obtain ⟨i12, e12, hx12, hw12⟩ := DataW.trod_int Tryz.underlying3 f1
      obtain ⟨s13, e13, hx13, hw13⟩ := DataW.trod_string Tryz.underlying9 f2
      obtain ⟨s14, e14, hx14, hw14⟩ := DataW.trod_string Tryz.underlying9 f3
      obtain ⟨s15, e15, hx15, hw15⟩ := DataW.trod_string Tryz.underlying9 f4
      simp only [List.cons.injEq, and_true] at e0 e1 e2 e3 e4 e5 e6 e7 e8 e9 e10 e11 e12 e13 e14 e15
      subst e0 e1 e2 e3 e4 e5 e6 e7 e8 e9 e10 e11 e12 e13 e14 e15 hx0 hx1 hx2 hx3 hx4 hx5 hx6 hx7 hx8 hx9 hx10 hx11 hx12 hx13 hx14 hx15
      subst hy hz
      refine ⟨⟨k, on, a, y, s, t, u, v, i8, i9, i10, i11, i12, s13, s14, s15⟩, rfl, ?_, hw1, hw2, hw8, hw9, hw10⟩
      rw [hx]
      rfl
theorem weights_elem {H : Type} {P : Program} {e : TypeId} : ∀ {elems : List (DataW H)} {d : DataW H}, d ∈ elems → ∀ n ∈ d.weights P e, n ∈ DataW.weightsAll P e elems
  | x :: r, d, hd, n, hn => by
    rcases List.mem_cons.1 hd with rfl | h
    · simp [DataW.weightsAll, hn]
    · simp [DataW.weightsAll, weights_elem h n hn]
set_option maxRecDepth 100000 in
theorem op_weights (H : Type) (o : OpA) : ∀ n ∈ [o.s.size, o.t.size, o.u.size, o.v.size, o.rn.size, o.rb.size, o.rt.size], n ∈ (opD H o).weights Tryz.prog 54 := by
  intro n hn
  have e : (opD H o).weights Tryz.prog 54 = [o.s.size, o.t.size, o.u.size, o.v.size, o.rn.size, o.rb.size, o.rt.size] := by
    unfold opD
    simp [DataW.weights, DataW.weightsEach, Tryz.underlying54, Tryz.underlying50, Tryz.underlying52]
    try exact ⟨rfl, rfl, rfl, rfl, rfl, rfl, rfl⟩
  rw [e]; exact hn
set_option maxRecDepth 100000 in
set_option maxHeartbeats 1000000 in
theorem open_script {H : Type} {enc : TypeId × Value → H} {W : World} {v : Value} {d : DataW H} {ps : List MemPlace} {ts : List TypeId} {ds : List (DataW H)} (hs : (DataW.weightsEach Tryz.prog ts ds).all (· ≤ reachBytes) = true) (ht : ts[0]? = some 22) (hd0 : ds[0]? = some d)
    (hval : Value.okWide Tryz.prog W .any 0 22 v) (h : DataW.Trod enc Tryz.prog W 0 (fun _ => true) true 22 v d ps) :
    v = .slice none 0 0 ∨ ∃ (a : Addr) (len cap : Nat) (os : Nat → OpA), v = .slice (some a) len cap ∧ (0 < len → a.block < W.heap.size) ∧ len ≤ 1000000000000 ∧ (∀ i, i < len → OpAt W (a.add (i * 16)) (os i)) ∧ (∀ i, i < len → OpWf (os i)) := by
  obtain ⟨fuel, hf⟩ := h
  have hv : v.cells.toList = [v] := by
    obtain ⟨b, l, c, rfl⟩ := okWide_slice Tryz.underlying22 hval
    rfl
  rw [hv] at hf
  rcases Go.Deep.open_slice Tryz.underlying22 hf with ⟨h1, h2⟩ | ⟨a, len, cap, m, n, D, Pl, h1, _, hlc, _, hm, h2, hel⟩
  · simp only [List.cons.injEq, and_true] at h1
    exact .inl h1
  · simp only [List.cons.injEq, and_true] at h1
    subst h1
    right
    simp only [if_true] at hm
    subst hm
    simp only [Prod.mk.injEq] at h2
    obtain ⟨rfl, rfl⟩ := h2
    rw [cells54] at hel
    have hz := sized_slice hs ht hd0 Tryz.underlying22
    rw [bytes54] at hz
    simp only [List.length_map, List.length_range] at hz
    have hr : reachBytes ≤ 140737488351232 := by decide
    have hz2 := Nat.le_trans hz hr
    clear hz
    have hops : ∀ i, i < len → ∃ o : OpA, OpAt W (a.add (i * 16)) o ∧ D i = opD H o ∧ (Lit.int .i64 o.on).wf = true ∧ (Lit.int .i64 o.a).wf = true ∧ (Lit.int .i64 o.cs).wf = true ∧ (Lit.int .i64 o.ca).wf = true ∧ (Lit.int .i64 o.cm).wf = true := by
      intro i hi
      obtain ⟨cs', hc1, hc2⟩ := hel i (by omega)
      obtain ⟨_, hl, hcell⟩ := World.cells?_some hc1
      obtain ⟨o, e, e2, q⟩ := open_op hl hc2
      refine ⟨o, ?_, e2, q⟩
      intro j v hj
      rw [← e] at hj
      have hjl : j < 16 := by
        rcases Nat.lt_or_ge j 16 with h | h
        · exact h
        · rw [List.getElem?_eq_none (by omega)] at hj; cases hj
      rw [hcell j hjl]; exact hj
    have : Inhabited OpA := ⟨⟨0, 0, 0, false, ⟨#[]⟩, ⟨#[]⟩, ⟨#[]⟩, ⟨#[]⟩, 0, 0, 0, 0, 0, ⟨#[]⟩, ⟨#[]⟩, ⟨#[]⟩⟩⟩
    obtain ⟨os, hos⟩ := Go.Deep.choose_lt hops
    refine ⟨a, len, _, os, rfl, ?_, by omega, fun i hi => (hos i hi).1, fun i hi => ?_⟩
    · intro h0
      have h1 := (hos 0 h0).1 0 _ rfl
      have h2 := World.block_lt_of_cell? _ _ h1
      rwa [add_block, add_block] at h2
    · obtain ⟨_, e, w1, w2, w3, w4, w5⟩ := hos i hi
      have hmem : ∀ n ∈ (opD H (os i)).weights Tryz.prog 54, n ≤ 140737488351232 := by
        intro n hn
        have hD : opD H (os i) ∈ (List.range len).map D := by
          rw [← e]; exact List.mem_map.2 ⟨i, by simpa using hi, rfl⟩
        have hw := weights_elem hD n hn
        have hall := List.all_eq_true.1 hs n (DataW.weights_mem_each ht hd0 n (by
          simp only [DataW.weights, Tryz.underlying22]
          exact List.mem_cons_of_mem _ (List.mem_append_left _ hw)))
        have : n ≤ reachBytes := by simpa using hall
        omega
      have hs7 := fun n hn => hmem n (op_weights H (os i) n hn)
      exact ⟨bounds_i64 w1, bounds_i64 w2, bounds_i64 w3, bounds_i64 w4, bounds_i64 w5, hs7 _ (by simp), hs7 _ (by simp), hs7 _ (by simp), hs7 _ (by simp), hs7 _ (by simp), hs7 _ (by simp), hs7 _ (by simp)⟩
end Go.Proofs.YtgalgjmhdbncbaaGreat
