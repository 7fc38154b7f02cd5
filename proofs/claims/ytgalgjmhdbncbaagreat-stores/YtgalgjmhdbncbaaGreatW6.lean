import Derived.Test.YtgalgjmhdbncbaaGreatW5
namespace Go.Proofs.YtgalgjmhdbncbaaGreat
open Go.RowKit
attribute [local go_sem ↓] Go.wp_at_zero Go.wp_at_succ

/-! ### Stores -/
def nilS : Value := .slice none 0 0
/-- the stores alone -/
def IVs (B gw k : Nat) (L : List Vt → Prop) (W : World) : Prop := B ≤ W.heap.size ∧ ∃ own sv vs, Wld W gw sv nilS nilS nilS ∧ own gw = (0, 0) ∧ InvV W B own sv vs k ∧ vs.length ≤ k ∧ L vs
def OpOk (o : OpA) : Prop := (-9223372036854775808 ≤ o.on ∧ o.on ≤ 9223372036854775807) ∧ o.a ≤ 9223372036854775807
theorem IVs.of {B gw k : Nat} {W w' : World} {own : Nat → Nat × Nat} {vs : List Vt} {D : List Vt → Prop} (hB : B ≤ W.heap.size) (hg : own gw = (0, 0)) (hgl : gw < W.heap.size) (hlo : ∀ b, b < B → own b = (99, 0)) (hk : vs.length ≤ k) (h : VStep W w' B gw own nilS nilS nilS vs k D) : IVs B gw (k + 1) D w' ∧ Below B W w' := by
  obtain ⟨own', sv', vs', hD, hW, hI, hl, _, ho, hF⟩ := h
  refine ⟨⟨Nat.le_trans hB hF.size, own', sv', vs', hW, ?_, hI, by omega, hD⟩, hF.below hB (fun b hb => by rw [hlo b hb]; simp)⟩
  rw [ho gw hgl]; exact hg
theorem IVs.mono {B gw k : Nat} {W : World} {L L' : List Vt → Prop} (h : IVs B gw k L W) (hL : ∀ vs, L vs → L' vs) : IVs B gw k L' W := by
  obtain ⟨hB, own, sv, vs, hW, hg, hI, hl, hL2⟩ := h
  exact ⟨hB, own, sv, vs, hW, hg, hI, hl, hL _ hL2⟩
theorem IVs.fr {B gw k : Nat} {W W' : World} {L : List Vt → Prop} (h : IVs B gw k L W) (hf : Fr [] W W') : IVs B gw k L W' := by
  obtain ⟨hB, own, sv, vs, hW, hg, hI, hl, hL2⟩ := h
  exact ⟨Nat.le_trans hB hf.size, own, sv, vs, hW.fr hf (by simp), hg, hI.frT (FrT.of (T := []) hf (by simp)) (by simp) (by simp) (by simp) (by simp), hl, hL2⟩
theorem step_s_new (B gw k : Nat) (L : List Vt → Prop) (o : OpA) (hk : o.kind = 10) (hkk : k ≤ 1000000000000) (W : World) (h : IVs B gw k L W) :
    Calls Tryz.prog 14 #[ptr gw, .agg (opC o)] W fun e w' => e = .returned (.bool true) ∧ IVs B gw (k + 1) (fun vs' => ∃ vs gx gr gc, L vs ∧ vs' = vs ++ [⟨gx, gr, gc, newSto, newR⟩]) w' ∧ Below B W w' := by
  obtain ⟨hB, own, sv, vs, hW, hg, hI, hl, hL⟩ := h
  refine Calls.mono (step_new W B gw own sv nilS nilS nilS vs k o hW hg hI hB hk (by omega)) ?_
  rintro e w' ⟨rfl, hV⟩
  obtain ⟨h1, h2⟩ := IVs.of hB hg hW.lt hI.lo hl hV
  exact ⟨rfl, h1.mono (fun vs' ⟨gx, gr, gc, e⟩ => ⟨vs, gx, gr, gc, hL, e⟩), h2⟩
theorem step_s_call (B gw k : Nat) (L : List Vt → Prop) (o : OpA) (hk : 10 < o.kind ∧ o.kind < 20) (hO : OpOk o) (hkk : k ≤ 1000000000000) (W : World) (h : IVs B gw k L W) :
    Calls Tryz.prog 14 #[ptr gw, .agg (opC o)] W fun e w' => e = .returned (.bool true) ∧ IVs B gw (k + 1) (fun vs' => ∃ vs, L vs ∧ (vs' = vs ∨ Called o vs vs')) w' ∧ Below B W w' := by
  obtain ⟨hB, own, sv, vs, hW, hg, hI, hl, hL⟩ := h
  by_cases h0 : vs.length = 0
  · refine Calls.mono (step_idle W B gw own sv nilS nilS nilS vs k o hW hI hk h0) ?_
    rintro e w' ⟨rfl, hV⟩
    obtain ⟨h1, h2⟩ := IVs.of hB hg hW.lt hI.lo hl hV
    exact ⟨rfl, h1.mono (fun vs' e => ⟨vs, hL, .inl e⟩), h2⟩
  · refine Calls.mono (step_call W B gw own sv nilS nilS nilS vs k o hW hg hI hk hO.1 hO.2 (by omega) (by omega) (by omega)) ?_
    rintro e w' ⟨rfl, hV⟩
    obtain ⟨h1, h2⟩ := IVs.of hB hg hW.lt hI.lo hl hV
    exact ⟨rfl, h1.mono (fun vs' e => ⟨vs, hL, .inr e⟩), h2⟩
theorem Called.len {o : OpA} {vs vs' : List Vt} (h : Called o vs vs') : vs'.length = vs.length := by
  obtain ⟨r, v, R, _, e⟩ := h
  rw [e, List.length_set]
theorem IVs.new (W : World) (B : Nat) (hB : B ≤ W.heap.size) : IVs B W.heap.size 0 (fun vs => vs = []) (W.alloc (.cells #[nilS, nilS, nilS, nilS] 48)) := by
  refine ⟨by simp; omega, fun b => if b < B then (99, 0) else (0, 0), nilS, [], heap_of_new _ _ _ rfl, by simp; omega, ⟨World.ownsRow_nil _ _ _ _, ?_, ?_, ?_⟩, by simp, rfl⟩
  · intro b hb; simp [nilS, Value.ownBlock] at hb
  · intro i v hi; simp at hi
  · intro b hb; simp [hb]
theorem IVs.one {B gw k : Nat} {W : World} (h : IVs B gw k (fun vs => vs.length = 1) W) : ∃ g cap, W.cell? ⟨gw, 0, none⟩ = some (.slice (some ⟨g, 0, none⟩) 1 cap) := by
  obtain ⟨hB, own, sv, vs, hW, hg, hI, hl, hL⟩ := h
  have := hI.ow
  rw [hL] at this
  obtain ⟨g, cap, e, _, _⟩ := World.ownsRow.form this (by omega)
  exact ⟨g, cap, by rw [hW.cells.1, e]⟩
set_option maxRecDepth 100000 in
set_option maxHeartbeats 4000000 in
theorem begins_stores (W : World) : Calls Tryz.prog 13 #[.int .i64 10, .int .i64 13] W fun e w' => e = .returned (.bool true) ∧ Below W.heap.size W w' := by
  have n0 := IVs.new W W.heap.size (Nat.le_refl _)
  have B0 : Below W.heap.size W (W.alloc (.cells #[nilS, nilS, nilS, nilS] 48)) := (Below.refl _ _).alloc (Nat.le_refl _) _
  have s1 := fun L w h => step_s_new W.heap.size W.heap.size 0 L ⟨10, 0, 0, false, ⟨#[]⟩, ⟨#[]⟩, ⟨#[]⟩, ⟨#[]⟩, 0, 0, 0, 0, 0, ⟨#[]⟩, ⟨#[]⟩, ⟨#[]⟩⟩ rfl (by omega) w h
  have s2 := fun L w h => step_s_call W.heap.size W.heap.size 1 L ⟨12, 0, 7, false, ⟨#[110, 111, 32, 99, 101, 108, 108]⟩, ⟨#[]⟩, ⟨#[]⟩, ⟨#[]⟩, 0, 0, 0, 0, 0, ⟨#[]⟩, ⟨#[]⟩, ⟨#[]⟩⟩ (by decide) (by unfold OpOk; decide) (by omega) w h
  have s3 := fun L w h => step_s_call W.heap.size W.heap.size 2 L ⟨11, 0, 7, false, ⟨#[]⟩, ⟨#[]⟩, ⟨#[]⟩, ⟨#[]⟩, 0, 0, 0, 0, 0, ⟨#[]⟩, ⟨#[]⟩, ⟨#[]⟩⟩ (by decide) (by unfold OpOk; decide) (by omega) w h
  have s4 := fun L w h => step_s_call W.heap.size W.heap.size 3 L ⟨12, 0, 7, false, ⟨#[]⟩, ⟨#[]⟩, ⟨#[]⟩, ⟨#[]⟩, 0, 0, 0, 0, 0, ⟨#[]⟩, ⟨#[]⟩, ⟨#[]⟩⟩ (by decide) (by unfold OpOk; decide) (by omega) w h
  unfold ptr opC at s1 s2 s3 s4
  unfold nilS at n0 B0
  have N0 : Hid _ := n0
  have H1 : Hid _ := s1
  have H2 : Hid _ := s2
  have H3 : Hid _ := s3
  have H4 : Hid _ := s4
  clear n0 s1 s2 s3 s4
  go_enter Tryz.func13, Tryz.ntmps13
  go_wp2_with fail
  refine (H1.out _ _ N0.out).mono ?_
  rintro e w1 ⟨rfl, i1, b1⟩
  have I1 := i1.mono (L' := fun vs => vs.length = 1) (by rintro vs' ⟨vs, gx, gr, gc, rfl, rfl⟩; rfl)
  go_wp2_with fail
  refine (H2.out _ _ I1).mono ?_
  rintro e w2 ⟨rfl, i2, b2⟩
  have I2 := i2.mono (L' := fun vs => vs.length = 1) (by rintro vs' ⟨vs, h, rfl | h2⟩; exact h; rw [h2.len]; exact h)
  go_wp2_with fail
  refine (H3.out _ _ I2).mono ?_
  rintro e w3 ⟨rfl, i3, b3⟩
  have I3 := i3.mono (L' := fun vs => vs.length = 1) (by rintro vs' ⟨vs, h, rfl | h2⟩; exact h; rw [h2.len]; exact h)
  go_wp2_with fail
  refine (H4.out _ _ I3).mono ?_
  rintro e w4 ⟨rfl, i4, b4⟩
  have I4 := i4.mono (L' := fun vs => vs.length = 1) (by rintro vs' ⟨vs, h, rfl | h2⟩; exact h; rw [h2.len]; exact h)
  obtain ⟨g, cap, hc⟩ := I4.one
  have BB := (((B0.trans b1).trans b2).trans b3).trans b4
  clear i1 i2 i3 i4 I1 I2 I3 I4 b1 b2 b3 b4 H1 H2 H3 H4 N0 B0
  go_wp2
  go_ret
  exact ⟨rfl, BB⟩
set_option maxRecDepth 100000 in
set_option maxHeartbeats 4000000 in
theorem stores_law (a : Addr) (len cap : Nat) (os : Nat → OpA) (w : World) (hab : 0 < len → a.block < w.heap.size) (hlen : len ≤ 1000000000000) (hos : ∀ i, i < len → OpAt w (a.add (i * 16)) (os i)) (hok : ∀ i, i < len → OpOk (os i)) :
    Calls Tryz.prog 3 #[.slice (some a) len cap] w fun e w' => e = .returned (.bool true) ∧ Below w.heap.size w w' := by
  have h := plays_any 10 13 a len cap os (fun B gw k W => IVs B gw k (fun _ => True) W) w hab (by omega) hos begins_stores
    (fun W hW => (IVs.new W w.heap.size hW).mono (fun _ _ => trivial)) (fun B gw k W o h => h.fr ((Fr.refl _ _).alloc o))
    (fun B gw k W ⟨h1, own, sv, vs, h2, h3, h4, h5, h6⟩ => ⟨h1, own, sv, vs, h2, h3, ⟨h4.ow, h4.sl, fun i v hi => by
      obtain ⟨a, b, c, d, e⟩ := h4.st i v hi
      exact ⟨a, b, c, d, by omega⟩, h4.lo⟩, by omega, trivial⟩)
    (fun i B gw k W hi h1 h2 hB hk hI => by
      by_cases h10 : (os i).kind = 10
      · refine Calls.mono (step_s_new B gw k _ (os i) h10 (by omega) W hI) ?_
        rintro e w' ⟨rfl, h3, h4⟩
        exact ⟨rfl, h3.mono (fun _ _ => trivial), h4⟩
      · refine Calls.mono (step_s_call B gw k _ (os i) (by omega) (hok i hi) (by omega) W hI) ?_
        rintro e w' ⟨rfl, h3, h4⟩
        exact ⟨rfl, h3.mono (fun _ _ => trivial), h4⟩)
  have H : Hid _ := h
  clear h hos hok
  go_enter Tryz.func3, Tryz.ntmps3
  go_wp2_with fail
  refine Calls.mono H.out ?_
  rintro e w1 ⟨rfl, b1⟩
  go_wp2
  go_ret
  exact ⟨rfl, b1⟩
set_option maxRecDepth 100000 in
set_option maxHeartbeats 4000000 in
theorem stores_nil (w : World) : Calls Tryz.prog 3 #[.slice none 0 0] w fun e w' => e = .returned (.bool true) ∧ Below w.heap.size w w' := by
  have h := plays_nil 10 13 w begins_stores
  have H : Hid _ := h
  clear h
  go_enter Tryz.func3, Tryz.ntmps3
  go_wp2_with fail
  refine Calls.mono H.out ?_
  rintro e w1 ⟨rfl, b1⟩
  go_wp2
  go_ret
  exact ⟨rfl, b1⟩
end Go.Proofs.YtgalgjmhdbncbaaGreat
