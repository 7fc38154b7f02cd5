import Derived.Test.YtgalgjmhdbncbabGreatZb51
import Derived.Test.YtgalgjmhdbncbabGreatZb52
namespace Go.Proofs.YtgalgjmhdbncbabGreat
open Go.RowKit
attribute [local go_sem ↓] Go.wp_at_zero Go.wp_at_succ

def Bg1 (vs : List Vt) (rs : List Rg) (gi : List ByteArray) : Prop := ∃ v, vs = [v] ∧ rs = [] ∧ gi = [] ∧ v.S.left = 0 ∧ ∀ j, j ≠ 7 → v.S.cell j = ⟨#[]⟩
def Bg2 (vs : List Vt) (rs : List Rg) (gi : List ByteArray) : Prop := ∃ v r, vs = [v] ∧ rs = [r] ∧ gi = [] ∧ r.v = 0 ∧ v.S.left = 0 ∧ v.S.tab = some r.gx ∧ ∀ j, j < 8 → (r.H j).c.st = 0 ∧ (r.H j).ctr = 0
def bgC : Cl := ⟨1, 1, 3, ⟨#[102, 111, 117, 114]⟩, 9, 2, 9, 0, ⟨#[48, 49, 50, 51, 52, 53, 54, 55, 56, 57, 97, 98, 99, 100, 101, 102]⟩⟩
def Bg3 (vs : List Vt) (rs : List Rg) (gi : List ByteArray) : Prop := ∃ v r i, vs = [v] ∧ rs = [r] ∧ gi = [] ∧ r.v = 0 ∧ v.S.left = 0 ∧ v.S.tab = some r.gx ∧ i < 8 ∧ r.H i = ⟨bgC, 0⟩ ∧ ∀ j, j < 8 → j ≠ i → (r.H j).c.st = 0
def Bg4 (rs : List Rg) (gi : List ByteArray) : Prop := rs.length = 1 ∧ gi.length = 1
theorem one_at {α : Type} {x y : α} {i : Nat} (h : [x][i]? = some y) : i = 0 ∧ y = x := by
  have hi := getE_lt h
  simp only [List.length_cons, List.length_nil] at hi
  have : i = 0 := by omega
  subst this
  simp only [List.getElem?_cons_zero, Option.some.injEq] at h
  exact ⟨rfl, h.symm⟩
theorem bg_call (o : OpA) (ha : o.a = 7) (hk : o.kind = 11 ∨ o.kind = 12) {vs vs' : List Vt} {rs : List Rg} {gi : List ByteArray} (h : Bg1 vs rs gi) (hc : (vs = [] ∧ vs' = vs) ∨ Called o vs vs') : Bg1 vs' rs gi := by
  rcases hc with ⟨_, rfl⟩ | ⟨r, v', R', hr, rfl⟩
  · exact h
  · obtain ⟨v, rfl, h1, h2, h3, h4⟩ := h
    obtain ⟨rfl, rfl⟩ := one_at hr
    refine ⟨_, rfl, h1, h2, ?_, ?_⟩
    · show (storedM o v'.S).left = 0
      unfold storedM wroteM
      split
      · split
        · exact h3
        · split
          · exact h3
          · show v'.S.left - 1 = 0
            omega
      · rw [if_neg (by omega)]; exact h3
    · intro j hj
      show (storedM o v'.S).cell j = _
      unfold storedM wroteM
      split
      · split
        · exact h4 j hj
        · split
          · exact h4 j hj
          · dsimp only
            split
            · exact h4 j hj
            · dsimp only
              rw [ha, if_neg (by show ¬ j = 7; exact hj)]
              exact h4 j hj
      · rw [if_neg (by omega)]; exact h4 j hj
def Bg1' (vs : List Vt) (rs : List Rg) (gi : List ByteArray) : Prop := ∃ v, vs = [v] ∧ rs = [] ∧ gi = [] ∧ v.S.left = 0 ∧ ∀ j, v.S.cell j = ⟨#[]⟩
theorem bg_last (o : OpA) (ha : o.a = 7) (hk : o.kind = 12) (hs : o.s = ⟨#[]⟩) {vs vs' : List Vt} {rs : List Rg} {gi : List ByteArray} (h : Bg1 vs rs gi) (hc : Called o vs vs') : Bg1' vs' rs gi := by
  have h5 := bg_call o ha (.inr hk) h (.inr hc)
  obtain ⟨r, v', R', hr, rfl⟩ := hc
  obtain ⟨v, rfl, h1, h2, h3, h4⟩ := h
  obtain ⟨rfl, rfl⟩ := one_at hr
  obtain ⟨v2, e, _, _, h6, h7⟩ := h5
  simp only [List.set_cons_zero, List.cons.injEq, and_true] at e
  refine ⟨v2, by rw [← e]; rfl, h1, h2, h6, fun j => ?_⟩
  by_cases hj : j = 7
  · rw [← e]
    show (storedM o v'.S).cell j = _
    unfold storedM wroteM
    rw [if_pos hk, ha, if_neg (by decide), if_neg (by rw [hs]; decide)]
    dsimp only
    rw [if_neg (by omega), hj]
    show (if 7 = Int.toNat 7 then o.s else _) = _
    rw [if_pos (by decide), hs]
  · exact h7 j hj
theorem bg_lastc (o : OpA) (ha : o.a = 7) (hk : o.kind = 12) (hs : o.s = ⟨#[]⟩) {vs vs' : List Vt} {rs : List Rg} {gi : List ByteArray} (h : Bg1 vs rs gi) (hc : (vs = [] ∧ vs' = vs) ∨ Called o vs vs') : Bg1' vs' rs gi := by
  rcases hc with ⟨h0, _⟩ | hc
  · obtain ⟨v, hv, _⟩ := h
    rw [h0] at hv
    cases hv
  · exact bg_last o ha hk hs h hc
theorem bg_start (o : OpA) (ho : o.on = 0) {vs vs' : List Vt} {rs rs' : List Rg} {gi : List ByteArray} (h : Bg1' vs rs gi) (hc : Started o vs rs vs' rs') : Bg2 vs' rs' gi := by
  obtain ⟨v, rfl, rfl, h2, h3, h4⟩ := h
  have hz : ∀ j, ofC (v.S.cell j) = zCl := fun j => by unfold ofC; rw [h4 j]; rfl
  have hok : ∀ j, j < 8 → CellOk v.S j := fun j _ => ⟨.inl (by rw [h4 j]; rfl), fun h => absurd (by rw [hz j]; rfl) h⟩
  rcases hc with ⟨_, _, h⟩ | ⟨i, v1, v', add, hp, hv, rfl, rfl, e1, e2, ⟨_, hn⟩ | ⟨r, rfl, rv, rH, rt⟩⟩
  · rw [ho, pickN_zero] at h
    simp at h
  · obtain ⟨rfl, rfl⟩ := one_at hv
    exact absurd hok hn
  · obtain ⟨rfl, rfl⟩ := one_at hv
    refine ⟨v', r, rfl, rfl, h2, rv, by rw [e2]; exact h3, rt, fun j hj => ?_⟩
    rw [rH]
    unfold stH
    rw [if_pos hj, hz j]
    exact ⟨rfl, rfl⟩
theorem bg_create (o : OpA) (hk : o.kind = 21) (ha : o.a = 3) (hs : o.s = ⟨#[48, 49, 50, 51, 52, 53, 54, 55, 56, 57, 97, 98, 99, 100, 101, 102]⟩) (ht : o.t = ⟨#[102, 111, 117, 114]⟩) (hc1 : o.cs = 9) (hc2 : o.ca = 2) (hc3 : o.cm = 9) {vs vs' : List Vt} {rs rs' : List Rg} {gi gi' : List ByteArray} (h : Bg2 vs rs gi) (hc : Worked o vs rs gi vs' rs' gi') : Bg3 vs' rs' gi' := by
  obtain ⟨v, r, rfl, rfl, rfl, hrv, hl, ht2, hH⟩ := h
  have hno : ∀ j, j < 8 → ¬ hit r.H o.a j := fun j hj hh => hh.1 (hH j hj).1
  rcases hc with ⟨h, _⟩ | ⟨h, _⟩ | ⟨q, r1, v1, r', v', hr, hv, rfl, rfl, e1, e2, ⟨_, rfl, c, hP⟩ | ⟨h, _⟩ | ⟨h, _⟩⟩
  · simp at h
  · omega
  · obtain ⟨rfl, rfl⟩ := one_at hr
    obtain ⟨e3, rfl⟩ := one_at hv
    rw [e3]
    rcases hP with ⟨h, _⟩ | ⟨_, ⟨h, _⟩ | ⟨_, ⟨h, _⟩ | ⟨A, a1, a2, a3, ⟨⟨i, hi, hh⟩, _⟩ | ⟨_, ⟨hf, _⟩ | ⟨i, hi, h0, hm, ⟨h, _⟩ | ⟨_, _, eS, eH⟩⟩⟩⟩⟩⟩
    · exact absurd ht2 h
    · exfalso
      apply h
      rw [ha, ht, hc1, hc2, hc3]
      exact ⟨by omega, by omega, rfl, ⟨by omega, by omega⟩, ⟨by omega, by omega⟩, ⟨by omega, by omega⟩⟩
    · exfalso
      apply h
      rw [hs]
      unfold KeyLen
      decide
    · exact absurd hh (hno i hi)
    · exact absurd (hH 0 (by omega)).1 (hf 0 (by omega))
    · omega
    · have hA : A = 1 := by
        rw [hs] at a3
        have : (⟨#[48, 49, 50, 51, 52, 53, 54, 55, 56, 57, 97, 98, 99, 100, 101, 102]⟩ : ByteArray).size = 16 := rfl
        omega
      refine ⟨v', r', i, rfl, rfl, rfl, by rw [e2]; exact hrv, ?_, by rw [eS, wrote_tab, e1]; exact ht2, hi, ?_, ?_⟩
      · rw [eS]
        unfold wroteM
        split
        · exact hl
        · split
          · exact hl
          · show v1.S.left - 1 = 0
            omega
      · rw [eH]
        unfold upd
        rw [if_pos rfl, (hH i hi).2, hA, ha, hs, ht, hc1, hc2, hc3]
        rfl
      · intro j hj hn
        rw [eH]
        unfold upd
        rw [if_neg hn]
        exact (hH j hj).1
  · omega
  · omega
theorem bg_seal (o : OpA) (hk : o.kind = 22) (ha : o.a = 3) (hs : o.s.size ≤ 180) (ht : o.t.size ≤ 9) {vs vs' : List Vt} {rs rs' : List Rg} {gi gi' : List ByteArray} (h : Bg3 vs rs gi) (hc : Worked o vs rs gi vs' rs' gi') : Bg4 rs' gi' := by
  obtain ⟨v, r, i, rfl, rfl, rfl, hrv, hl, ht2, hi, hHi, hH⟩ := h
  have hhit : hit r.H o.a i := by
    refine ⟨?_, ?_⟩
    · rw [hHi]; show (1 : Nat) ≠ 0; omega
    · rw [hHi, ha]; rfl
  have hone : ∀ j, j < 8 → hit r.H o.a j → j = i := fun j hj hh => Classical.byContradiction fun e => hh.1 (hH j hj e)
  rcases hc with ⟨h, _⟩ | ⟨h, _⟩ | ⟨q, r1, v1, r', v', hr, hv, rfl, rfl, e1, e2, ⟨h, _⟩ | ⟨h, _⟩ | ⟨_, s, c, hP, hg⟩⟩
  · simp at h
  · omega
  · omega
  · omega
  · obtain ⟨rfl, rfl⟩ := one_at hr
    obtain ⟨e3, rfl⟩ := one_at hv
    have hc0 : c = 0 := by
      rcases hP with ⟨h, _⟩ | ⟨_, j, d, hL, hP⟩
      · exact absurd ht2 h
      · have hj : j = i ∧ d = 0 := by
          rcases hL with ⟨hj, hh, _, _, hd⟩ | ⟨_, ⟨k, hk8, hh, _, h2⟩, _⟩ | ⟨_, hn, _⟩
          · exact ⟨hone j hj hh, hd⟩
          · have := hone k hk8 hh
            subst this
            rw [hHi] at h2
            exact absurd (show (1 : Nat) = 2 from h2) (by omega)
          · exact absurd hhit (hn i hi)
        obtain ⟨rfl, rfl⟩ := hj
        rw [hHi] at hP
        rcases hP with ⟨h, _⟩ | ⟨_, ⟨h, _⟩ | ⟨_, ⟨h, _⟩ | ⟨_, ⟨_, _, h, _⟩ | ⟨_, ⟨h, _⟩ | ⟨_, _, h, _⟩⟩⟩⟩⟩
        · exact absurd rfl h
        · have e : (⟨bgC, 0⟩ : Hd).c.most = 9 := rfl
          omega
        · exact absurd (show (0 : Nat) = 9 from h) (by omega)
        · exact h
        · omega
        · exact h
    rcases hg with ⟨h, _⟩ | ⟨_, rfl⟩
    · exact absurd hc0 h
    · exact ⟨rfl, rfl⟩
theorem bg_again (o : OpA) (hk : o.kind = 24) {vs vs' : List Vt} {rs rs' : List Rg} {gi gi' : List ByteArray} (h : Bg4 rs gi) (hc : Worked o vs rs gi vs' rs' gi') : Bg4 rs' gi' := by
  rcases hc with ⟨_, _, rfl, rfl⟩ | ⟨_, _, rfl, rfl⟩ | ⟨q, r1, v1, r', v', _, _, _, _, _, _, ⟨h, _⟩ | ⟨h, _⟩ | ⟨h, _⟩⟩
  · exact h
  · exact h
  · omega
  · omega
  · omega
theorem IVt.lens {B gw k : Nat} {W : World} (h : IVt B gw k (fun _ rs gi => Bg4 rs gi) W) : ∃ g cap g' cap', W.cell? ⟨gw, 1, none⟩ = some (.slice (some ⟨g, 0, none⟩) 1 cap) ∧ W.cell? ⟨gw, 2, none⟩ = some (.slice (some ⟨g', 0, none⟩) 1 cap') := by
  obtain ⟨hB, own, sv, sr, sg, sw, vs, rs, gi, wi, a, b, c, d, e, f, g1, g2⟩ := h
  have h1 := c.ow
  have h2 := c.og
  rw [g1] at h1
  rw [g2] at h2
  obtain ⟨g, cap, e1, _, _⟩ := World.ownsRow.form h1 (by omega)
  obtain ⟨g', cap', e2, _, _⟩ := World.ownsRow.form h2 (by omega)
  exact ⟨g, cap, g', cap', by rw [a.cells.2.1, e1], by rw [a.cells.2.2.1, e2]⟩
theorem IVt.onev {B gw k : Nat} {W : World} (h : IVt B gw k Bg1' W) : ∃ g cap, W.cell? ⟨gw, 0, none⟩ = some (.slice (some ⟨g, 0, none⟩) 1 cap) := by
  obtain ⟨hB, own, sv, sr, sg, sw, vs, rs, gi, wi, a, b, c, d, e, f, v, hv, _⟩ := h
  have h1 := c.V.ow
  rw [hv] at h1
  obtain ⟨g, cap, e1, _, _⟩ := World.ownsRow.form h1 (by simp)
  exact ⟨g, cap, by rw [a.cells.1, e1]; rfl⟩
theorem wf_lit (o : OpA) (h1 : o.on = 0) (h2 : 0 ≤ o.a ∧ o.a ≤ 10) (h3 : 0 ≤ o.cs ∧ o.cs ≤ 10) (h4 : 0 ≤ o.ca ∧ o.ca ≤ 10) (h5 : 0 ≤ o.cm ∧ o.cm ≤ 10) (h6 : o.s.size ≤ 100 ∧ o.t.size ≤ 100 ∧ o.u.size ≤ 100 ∧ o.v.size ≤ 100 ∧ o.rn.size ≤ 100 ∧ o.rb.size ≤ 100 ∧ o.rt.size ≤ 100) : OpWf o := by
  obtain ⟨a, b, c, d, e, f, g⟩ := h6
  exact ⟨by omega, by omega, by omega, by omega, by omega, by omega, by omega, by omega, by omega, by omega, by omega, by omega⟩
set_option maxRecDepth 100000 in
set_option maxHeartbeats 8000000 in
theorem begins_all (W : World) : Calls Tryz.prog 5 #[.int .i64 1, .int .i64 26] W fun e w' => e = .returned (.bool true) ∧ Below W.heap.size W w' := by
  have n0 := IVt.new W W.heap.size (Nat.le_refl _)
  have B0 : Below W.heap.size W (W.alloc (.cells #[nilS, nilS, nilS, nilS] 31)) := (Below.refl _ _).alloc (Nat.le_refl _) _
  have s1 := fun L w h => step_t_new W.heap.size W.heap.size 0 L ⟨10, 0, 0, false, ⟨#[]⟩, ⟨#[]⟩, ⟨#[]⟩, ⟨#[]⟩, 0, 0, 0, 0, 0, ⟨#[]⟩, ⟨#[]⟩, ⟨#[]⟩⟩ rfl (by omega) w h
  have s2 := fun L w h => step_t_call W.heap.size W.heap.size 1 L ⟨12, 0, 7, false, ⟨#[110, 111, 32, 99, 101, 108, 108]⟩, ⟨#[]⟩, ⟨#[]⟩, ⟨#[]⟩, 0, 0, 0, 0, 0, ⟨#[]⟩, ⟨#[]⟩, ⟨#[]⟩⟩ (by decide) (by unfold OpOk; decide) (by omega) w h
  have s3 := fun L w h => step_t_call W.heap.size W.heap.size 2 L ⟨11, 0, 7, false, ⟨#[]⟩, ⟨#[]⟩, ⟨#[]⟩, ⟨#[]⟩, 0, 0, 0, 0, 0, ⟨#[]⟩, ⟨#[]⟩, ⟨#[]⟩⟩ (by decide) (by unfold OpOk; decide) (by omega) w h
  have s4 := fun L w h => step_t_call W.heap.size W.heap.size 3 L ⟨12, 0, 7, false, ⟨#[]⟩, ⟨#[]⟩, ⟨#[]⟩, ⟨#[]⟩, 0, 0, 0, 0, 0, ⟨#[]⟩, ⟨#[]⟩, ⟨#[]⟩⟩ (by decide) (by unfold OpOk; decide) (by omega) w h
  have s5 := fun L w h => step_t_start W.heap.size W.heap.size 4 L ⟨20, 0, 0, false, ⟨#[]⟩, ⟨#[]⟩, ⟨#[]⟩, ⟨#[]⟩, 0, 0, 0, 0, 0, ⟨#[]⟩, ⟨#[]⟩, ⟨#[]⟩⟩ rfl (by unfold OpOk; decide) (by omega) w h
  have s6 := fun L w h => step_t_work W.heap.size W.heap.size 5 L ⟨21, 0, 3, false, ⟨#[48, 49, 50, 51, 52, 53, 54, 55, 56, 57, 97, 98, 99, 100, 101, 102]⟩, ⟨#[102, 111, 117, 114]⟩, ⟨#[]⟩, ⟨#[]⟩, 9, 2, 9, 0, 0, ⟨#[]⟩, ⟨#[]⟩, ⟨#[]⟩⟩ (by decide) (wf_lit _ rfl (by decide) (by decide) (by decide) (by decide) (by decide)) (by omega) w h
  have s7 := fun L w h => step_t_work W.heap.size W.heap.size 6 L ⟨22, 0, 3, false, ⟨#[119, 105, 116, 104]⟩, ⟨#[116, 104, 105, 115]⟩, ⟨#[]⟩, ⟨#[]⟩, 0, 0, 0, 0, 0, ⟨#[]⟩, ⟨#[]⟩, ⟨#[]⟩⟩ (by decide) (wf_lit _ rfl (by decide) (by decide) (by decide) (by decide) (by decide)) (by omega) w h
  have s8 := fun L w h => step_t_work W.heap.size W.heap.size 7 L ⟨24, 0, 0, false, ⟨#[]⟩, ⟨#[]⟩, ⟨#[]⟩, ⟨#[]⟩, 0, 0, 0, 0, 0, ⟨#[]⟩, ⟨#[]⟩, ⟨#[]⟩⟩ (by decide) (wf_lit _ rfl (by decide) (by decide) (by decide) (by decide) (by decide)) (by omega) w h
  unfold ptr opC at s1 s2 s3 s4 s5 s6 s7 s8
  unfold nilS at n0 B0
  have N0 : Hid _ := n0
  have H1 : Hid _ := s1
  have H2 : Hid _ := s2
  have H3 : Hid _ := s3
  have H4 : Hid _ := s4
  have H5 : Hid _ := s5
  have H6 : Hid _ := s6
  have H7 : Hid _ := s7
  have H8 : Hid _ := s8
  have HB0 : Hid _ := B0
  clear n0 s1 s2 s3 s4 s5 s6 s7 s8 B0
  go_enter Tryz.func5, Tryz.ntmps5
  go_wp2_with fail
  refine (H1.out _ _ N0.out).mono ?_
  rintro e w1 ⟨rfl, i1, b1⟩
  have I1 : Hid _ := i1.mono (L' := Bg1) (by rintro vs' rs gi ⟨vs, gx, gr, gc, ⟨rfl, rfl, rfl⟩, rfl⟩; exact ⟨_, rfl, rfl, rfl, rfl, fun _ _ => rfl⟩)
  have B1 : Hid _ := HB0.out.trans b1
  clear i1 b1 N0 H1 HB0
  go_wp2_with fail
  refine (H2.out _ _ I1.out).mono ?_
  rintro e w2 ⟨rfl, i2, b2⟩
  have I2 : Hid _ := i2.mono (L' := Bg1) (by rintro vs' rs gi ⟨vs, h, hc⟩; exact bg_call _ rfl (.inr rfl) h hc)
  have B2 : Hid _ := B1.out.trans b2
  clear i2 b2 I1 B1 H2
  go_wp2_with fail
  refine (H3.out _ _ I2.out).mono ?_
  rintro e w3 ⟨rfl, i3, b3⟩
  have I3 : Hid _ := i3.mono (L' := Bg1) (by rintro vs' rs gi ⟨vs, h, hc⟩; exact bg_call _ rfl (.inl rfl) h hc)
  have B3 : Hid _ := B2.out.trans b3
  clear i3 b3 I2 B2 H3
  go_wp2_with fail
  refine (H4.out _ _ I3.out).mono ?_
  rintro e w4 ⟨rfl, i4, b4⟩
  have i4' := i4.mono (L' := Bg1') (by
    rintro vs' rs gi ⟨vs, h, hc⟩
    exact bg_lastc _ rfl rfl rfl h hc)
  have I4 : Hid _ := i4'
  have B4 : Hid _ := B3.out.trans b4
  obtain ⟨g0, cap0, hc0⟩ := i4'.onev
  clear i4 i4' b4 I3 B3 H4
  go_wp2_with fail
  refine (H5.out _ _ I4.out).mono ?_
  rintro e w5 ⟨rfl, i5, b5⟩
  have I5 : Hid _ := i5.mono (L' := Bg2) (by rintro vs' rs' gi ⟨vs, rs, h, hc⟩; exact bg_start _ rfl h hc)
  have B5 : Hid _ := B4.out.trans b5
  clear i5 b5 I4 B4 H5 hc0
  go_wp2_with fail
  refine (H6.out _ _ I5.out).mono ?_
  rintro e w6 ⟨rfl, i6, b6⟩
  have I6 : Hid _ := i6.mono (L' := Bg3) (by rintro vs' rs' gi' ⟨vs, rs, gi, h, hc⟩; exact bg_create _ rfl rfl rfl rfl rfl rfl rfl h hc)
  have B6 : Hid _ := B5.out.trans b6
  clear i6 b6 I5 B5 H6
  go_wp2_with fail
  refine (H7.out _ _ I6.out).mono ?_
  rintro e w7 ⟨rfl, i7, b7⟩
  have I7 : Hid _ := i7.mono (L' := fun _ rs gi => Bg4 rs gi) (by rintro vs' rs' gi' ⟨vs, rs, gi, h, hc⟩; exact bg_seal _ rfl rfl (by decide) (by decide) h hc)
  have B7 : Hid _ := B6.out.trans b7
  clear i7 b7 I6 B6 H7
  go_wp2_with fail
  refine (H8.out _ _ I7.out).mono ?_
  rintro e w8 ⟨rfl, i8, b8⟩
  have I8 := i8.mono (L' := fun _ rs gi => Bg4 rs gi) (by rintro vs' rs' gi' ⟨vs, rs, gi, h, hc⟩; exact bg_again _ rfl h hc)
  have B8 : Hid _ := B7.out.trans b8
  obtain ⟨g, cap, g', cap', hc1, hc2⟩ := I8.lens
  clear i8 b8 I7 B7 H8 I8
  go_wp2
  go_ret
  exact ⟨rfl, B8.out⟩
set_option maxRecDepth 100000 in
set_option maxHeartbeats 4000000 in
theorem all_law (a : Addr) (len cap : Nat) (os : Nat → OpA) (w : World) (hab : 0 < len → a.block < w.heap.size) (hlen : len ≤ 1000000000000) (hos : ∀ i, i < len → OpAt w (a.add (i * 16)) (os i)) (hok : ∀ i, i < len → OpWf (os i)) :
    Calls Tryz.prog 3 #[.slice (some a) len cap] w fun e w' => e = .returned (.bool true) ∧ Below w.heap.size w w' := by
  have h := plays_any 1 26 a len cap os (fun B gw k W => IVt B gw k (fun _ _ _ => True) W) w hab (by omega) hos begins_all
    (fun W hW => (IVt.new W w.heap.size hW).mono (fun _ _ _ _ => trivial)) (fun B gw k W o h => h.fr ((Fr.refl _ _).alloc o))
    (fun B gw k W h => h.next)
    (fun i B gw k W hi h1 h2 hB hk hI => by
      have hO : OpOk (os i) := ⟨(hok i hi).on, (hok i hi).a.2⟩
      rcases (by omega : (os i).kind < 10 ∨ (os i).kind = 10 ∨ (10 < (os i).kind ∧ (os i).kind < 20) ∨ (os i).kind = 20 ∨ (20 < (os i).kind ∧ (os i).kind ≤ 26)) with h | h | h | h | h
      · refine Calls.mono (step_t_plain B gw k _ (os i) h (hok i hi) W hB hI) ?_
        rintro e w' ⟨rfl, h3, h4⟩
        exact ⟨rfl, h3.mono (fun _ _ _ _ => trivial), h4⟩
      · refine Calls.mono (step_t_new B gw k _ (os i) h (by omega) W hI) ?_
        rintro e w' ⟨rfl, h3, h4⟩
        exact ⟨rfl, h3.mono (fun _ _ _ _ => trivial), h4⟩
      · refine Calls.mono (step_t_call B gw k _ (os i) h hO (by omega) W hI) ?_
        rintro e w' ⟨rfl, h3, h4⟩
        exact ⟨rfl, h3.mono (fun _ _ _ _ => trivial), h4⟩
      · refine Calls.mono (step_t_start B gw k _ (os i) h hO (by omega) W hI) ?_
        rintro e w' ⟨rfl, h3, h4⟩
        exact ⟨rfl, h3.mono (fun _ _ _ _ => trivial), h4⟩
      · refine Calls.mono (step_t_work B gw k _ (os i) h (hok i hi) (by omega) W hI) ?_
        rintro e w' ⟨rfl, h3, h4⟩
        exact ⟨rfl, h3.mono (fun _ _ _ _ => trivial), h4⟩)
  have H : Hid _ := h
  clear h hos hok
  go_enter Tryz.func3, Tryz.ntmps3
  go_wp2_with fail
  refine Calls.mono H.out ?_
  rintro e w1 ⟨rfl, b1⟩
  go_wp2
  go_ret
  exact ⟨rfl, b1⟩
set_option maxRecDepth 100000 in
set_option maxHeartbeats 4000000 in
theorem all_nil (w : World) : Calls Tryz.prog 3 #[.slice none 0 0] w fun e w' => e = .returned (.bool true) ∧ Below w.heap.size w w' := by
  have h := plays_nil 1 26 w begins_all
  have H : Hid _ := h
  clear h
  go_enter Tryz.func3, Tryz.ntmps3
  go_wp2_with fail
  refine Calls.mono H.out ?_
  rintro e w1 ⟨rfl, b1⟩
  go_wp2
  go_ret
  exact ⟨rfl, b1⟩
end Go.Proofs.YtgalgjmhdbncbabGreat
