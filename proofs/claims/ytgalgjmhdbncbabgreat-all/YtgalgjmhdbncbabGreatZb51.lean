import Derived.Test.YtgalgjmhdbncbabGreatZb44
import Derived.Test.YtgalgjmhdbncbabGreatZb47
import Derived.Test.YtgalgjmhdbncbabGreatZb50
namespace Go.Proofs.YtgalgjmhdbncbabGreat
open Go.RowKit
attribute [local go_sem ↓] Go.wp_at_zero Go.wp_at_succ

def IVt (B gw k : Nat) (L : List Vt → List Rg → List ByteArray → Prop) (W : World) : Prop :=
  B ≤ W.heap.size ∧ ∃ own sv sr sg sw vs rs gi wi, Wld W gw sv sr sg sw ∧ own gw = (0, 0) ∧ InvT W B own sv sr sg sw vs rs gi wi k ∧ vs.length ≤ k ∧ rs.length ≤ k ∧ gi.length ≤ k ∧ L vs rs gi
theorem IVt.mono {B gw k : Nat} {W : World} {L L' : List Vt → List Rg → List ByteArray → Prop} (h : IVt B gw k L W) (hL : ∀ vs rs gi, L vs rs gi → L' vs rs gi) : IVt B gw k L' W := by
  obtain ⟨hB, own, sv, sr, sg, sw, vs, rs, gi, wi, a, b, c, d, e, f, g⟩ := h
  exact ⟨hB, own, sv, sr, sg, sw, vs, rs, gi, wi, a, b, c, d, e, f, hL _ _ _ g⟩
theorem IVt.fr {B gw k : Nat} {W W' : World} {L : List Vt → List Rg → List ByteArray → Prop} (h : IVt B gw k L W) (hf : Fr [] W W') : IVt B gw k L W' := by
  obtain ⟨hB, own, sv, sr, sg, sw, vs, rs, gi, wi, a, b, c, d, e, f, g⟩ := h
  exact ⟨Nat.le_trans hB hf.size, own, sv, sr, sg, sw, vs, rs, gi, wi, a.fr hf (by simp), b, c.frT (FrT.of hf (by simp)), d, e, f, g⟩
theorem IVt.next {B gw k : Nat} {W : World} {L : List Vt → List Rg → List ByteArray → Prop} (h : IVt B gw k L W) : IVt B gw (k + 1) L W := by
  obtain ⟨hB, own, sv, sr, sg, sw, vs, rs, gi, wi, a, b, c, d, e, f, g⟩ := h
  exact ⟨hB, own, sv, sr, sg, sw, vs, rs, gi, wi, a, b, c.mono (by omega), by omega, by omega, by omega, g⟩
theorem IVt.new (W : World) (B : Nat) (hB : B ≤ W.heap.size) : IVt B W.heap.size 0 (fun vs rs gi => vs = [] ∧ rs = [] ∧ gi = []) (W.alloc (.cells #[nilS, nilS, nilS, nilS] 31)) := by
  have hn : ∀ b, nilS.ownBlock = some b → False := fun b hb => by simp [nilS, Value.ownBlock] at hb
  refine ⟨by simp; omega, fun b => if b < B then (99, 0) else (0, 0), nilS, nilS, nilS, nilS, [], [], [], [], heap_of_new _ _ _ rfl, by simp; omega, ⟨⟨World.ownsRow_nil _ _ _ _, fun b hb => (hn b hb).elim, fun i v hi => by simp at hi, fun b hb => by simp [hb]⟩, fun i v hi => by simp at hi, World.ownsRow_nil _ _ _ _, fun b hb => (hn b hb).elim, fun i v hi => by simp at hi, World.ownsRow_nil _ _ _ _, fun b hb => (hn b hb).elim, World.ownsRow_nil _ _ _ _, fun b hb => (hn b hb).elim, rfl, fun i v hi => by simp at hi, fun i v hi => by simp at hi⟩, by simp, by simp, by simp, rfl, rfl, rfl⟩
theorem stored_ok (o : OpA) (S : Sto) (h : ∀ j, j < 8 → (S.cell j).size ≤ 64) : ∀ j, j < 8 → ((storedM o S).cell j).size ≤ 64 := by
  intro j hj
  unfold storedM
  split
  · unfold wroteM
    split
    · exact h j hj
    · split
      · exact h j hj
      · dsimp only
        split
        · exact h j hj
        · dsimp only
          split
          · omega
          · exact h j hj
  · split
    · unfold interM
      split
      · exact h j hj
      · exact h j hj
    · exact h j hj
theorem IVt.of {B gw k : Nat} {W w' : World} {own own' : Nat → Nat × Nat} {sv' sr sg sw : Value} {vs' : List Vt} {rs : List Rg} {gi wi : List ByteArray} {T : List Nat} {L : List Vt → List Rg → List ByteArray → Prop} (hB : B ≤ W.heap.size) (hg : own gw = (0, 0)) (hgl : gw < W.heap.size) (hlo : ∀ b, b < B → own b = (99, 0)) (ho : ∀ b, b < W.heap.size → own' b = own b) (hF : FrT own T W w') (h99 : 99 ∉ T) (hW : Wld w' gw sv' sr sg sw) (hI : InvT w' B own' sv' sr sg sw vs' rs gi wi (k + 1)) (l1 : vs'.length ≤ k + 1) (l2 : rs.length ≤ k + 1) (l3 : gi.length ≤ k + 1) (hL : L vs' rs gi) : IVt B gw (k + 1) L w' ∧ Below B W w' :=
  ⟨⟨Nat.le_trans hB hF.size, own', sv', sr, sg, sw, vs', rs, gi, wi, hW, by rw [ho gw hgl]; exact hg, hI, l1, l2, l3, hL⟩, hF.below hB (fun b hb => by rw [hlo b hb]; exact h99)⟩
theorem step_t_new (B gw k : Nat) (L : List Vt → List Rg → List ByteArray → Prop) (o : OpA) (hk : o.kind = 10) (hkk : k ≤ 1000000000000) (W : World) (h : IVt B gw k L W) :
    Calls Tryz.prog 6 #[ptr gw, .agg (opC o)] W fun e w' => e = .returned (.bool true) ∧ IVt B gw (k + 1) (fun vs' rs gi => ∃ vs gx gr gc, L vs rs gi ∧ vs' = vs ++ [⟨gx, gr, gc, newSto, newR⟩]) w' ∧ Below B W w' := by
  obtain ⟨hB, own, sv, sr, sg, sw, vs, rs, gi, wi, hW, hg, hI, l1, l2, l3, hL⟩ := h
  refine Calls.mono (step_new W B gw own sv sr sg sw vs k o hW hg hI.V hB hk (by omega)) ?_
  rintro e w' ⟨rfl, own', sv', vs', ⟨gx, gr, gc, hD⟩, hW', hV, hl, hE, ho, hF⟩
  refine ⟨rfl, IVt.of hB hg hW.lt hI.V.lo ho hF (by simp) hW' (hI.stored hV hE ho hF ?_) (by omega) (by omega) (by omega) ⟨vs, gx, gr, gc, hL, hD⟩⟩
  intro i v hi
  rw [hD] at hi
  rcases Nat.lt_or_ge i vs.length with hlt | hge
  · rw [List.getElem?_append_left hlt] at hi
    obtain ⟨a, b, c⟩ := hI.cz i v hi
    exact ⟨a, by omega, c⟩
  · rw [List.getElem?_append_right hge] at hi
    have hj := getE_lt hi
    simp only [List.length_cons, List.length_nil] at hj
    rw [show i - vs.length = 0 by omega] at hi
    simp only [List.getElem?_cons_zero, Option.some.injEq] at hi
    subst hi
    exact ⟨fun j _ => by show (⟨#[]⟩ : ByteArray).size ≤ 64; decide, by show 0 ≤ _; omega, fun t ht => by simp [newSto] at ht⟩
theorem step_t_call (B gw k : Nat) (L : List Vt → List Rg → List ByteArray → Prop) (o : OpA) (hk : 10 < o.kind ∧ o.kind < 20) (hO : OpOk o) (hkk : k ≤ 1000000000000) (W : World) (h : IVt B gw k L W) :
    Calls Tryz.prog 6 #[ptr gw, .agg (opC o)] W fun e w' => e = .returned (.bool true) ∧ IVt B gw (k + 1) (fun vs' rs gi => ∃ vs, L vs rs gi ∧ ((vs = [] ∧ vs' = vs) ∨ Called o vs vs')) w' ∧ Below B W w' := by
  obtain ⟨hB, own, sv, sr, sg, sw, vs, rs, gi, wi, hW, hg, hI, l1, l2, l3, hL⟩ := h
  by_cases h0 : vs.length = 0
  · refine Calls.mono (step_idle W B gw own sv sr sg sw vs k o hW hI.V hk h0) ?_
    rintro e w' ⟨rfl, own', sv', vs', hD, hW', hV, hl, hE, ho, hF⟩
    have hD2 : vs' = vs := hD
    subst hD2
    refine ⟨rfl, IVt.of hB hg hW.lt hI.V.lo ho hF (by simp) hW' (hI.stored hV hE ho hF ?_) (by omega) (by omega) (by omega) ⟨_, hL, .inl ⟨List.length_eq_zero_iff.1 h0, rfl⟩⟩⟩
    intro i v hi
    obtain ⟨a, b, c⟩ := hI.cz i v hi
    exact ⟨a, by omega, c⟩
  · refine Calls.mono (step_call W B gw own sv sr sg sw vs k o hW hg hI.V hk hO.1 hO.2 (by omega) (by omega) (by omega)) ?_
    rintro e w' ⟨rfl, own', sv', vs', hD, hW', hV, hl, hE, ho, hF⟩
    refine ⟨rfl, IVt.of hB hg hW.lt hI.V.lo ho hF (by simp) hW' (hI.stored hV hE ho hF ?_) (by omega) (by omega) (by omega) ⟨_, hL, .inr hD⟩⟩
    intro i v' hi
    have hlen := hD.len
    obtain ⟨v, hv⟩ : ∃ v, vs[i]? = some v := ⟨vs[i]'(by have := getE_lt hi; omega), List.getElem?_eq_getElem _⟩
    obtain ⟨a, b, c⟩ := hI.cz i v hv
    obtain ⟨v2, hv2, _, _, _, e4, _, e6⟩ := hE i v hv
    rw [hi] at hv2
    simp only [Option.some.injEq] at hv2
    subst hv2
    refine ⟨?_, by rw [e6]; omega, by rw [e4]; exact c⟩
    obtain ⟨q, u, R', hq, rfl⟩ := hD
    rcases set_at hq hi with ⟨rfl, rfl⟩ | ⟨hn, hi2⟩
    · rw [hq] at hv
      simp only [Option.some.injEq] at hv
      subst hv
      exact stored_ok o _ a
    · exact (hI.cz i v' hi2).1
set_option maxRecDepth 100000 in
set_option maxHeartbeats 4000000 in
theorem step_20 (gw : Nat) (o : OpA) (hk : o.kind = 20) (w : World) (Q : World → Prop) (hc : ∀ W, Fr [] w W → Calls Tryz.prog 11 #[ptr gw, .agg (opC o)] W fun e w' => e = .returned (.bool true) ∧ Q w') :
    Calls Tryz.prog 6 #[ptr gw, .agg (opC o)] w fun e w' => e = .returned (.bool true) ∧ Q w' := by
  have F0 : Fr [] w (w.alloc (.cells (opC o) 37)) := (Fr.refl _ _).alloc _
  have h1 := hc _ F0
  clear hc F0
  unfold ptr at h1 ⊢
  rw [show Value.agg (opC o) = .agg #[.int .i64 o.kind, .int .i64 o.on, .int .i64 o.a, .bool o.yes, .string o.s, .string o.t, .string o.u, .string o.v, .int .i64 o.cs, .int .i64 o.ca, .int .i64 o.cm, .int .i64 o.ra, .int .i64 o.ri, .string o.rn, .string o.rb, .string o.rt] from rfl] at h1 ⊢
  unfold opC at h1
  rw [hk] at h1 ⊢
  have H1 : Hid _ := h1
  clear hk h1
  go_enter Tryz.func6, Tryz.ntmps6
  go_wp2_with fail
  refine Calls.mono H1.out ?_
  rintro e w1 ⟨rfl, hQ⟩
  have HQ : Hid _ := hQ
  clear hQ
  go_wp2
  go_ret
  exact ⟨rfl, HQ.out⟩
def Started (o : OpA) (vs : List Vt) (rs : List Rg) (vs' : List Vt) (rs' : List Rg) : Prop :=
  (vs' = vs ∧ rs' = rs ∧ pickN o.on (vs.length + 1) = vs.length) ∨ ∃ i v v' add, pickN o.on (vs.length + 1) = i ∧ vs[i]? = some v ∧ vs' = vs.set i v' ∧ rs' = rs ++ add ∧ v'.S.cell = v.S.cell ∧ v'.S.left = v.S.left ∧ ((add = [] ∧ ¬ ∀ j, j < 8 → CellOk v.S j) ∨ ∃ r, add = [r] ∧ r.v = i ∧ r.H = stH v.S 8 ∧ v'.S.tab = some r.gx)
theorem step_t_start (B gw k : Nat) (L : List Vt → List Rg → List ByteArray → Prop) (o : OpA) (hk : o.kind = 20) (hO : OpOk o) (hkk : k ≤ 1000000000000) (W : World) (h : IVt B gw k L W) :
    Calls Tryz.prog 6 #[ptr gw, .agg (opC o)] W fun e w' => e = .returned (.bool true) ∧ IVt B gw (k + 1) (fun vs' rs' gi => ∃ vs rs, L vs rs gi ∧ Started o vs rs vs' rs') w' ∧ Below B W w' := by
  obtain ⟨hB, own, sv, sr, sg, sw, vs, rs, gi, wi, hW, hg, hI, l1, l2, l3, hL⟩ := h
  refine step_20 gw o hk W _ ?_
  intro W1 hF1
  have hI1 := hI.frT (FrT.of hF1 (by simp))
  have hW1 := hW.fr hF1 (by simp)
  have hB1 := Nat.le_trans hB hF1.size
  have hlt : pickN o.on (vs.length + 1) ≤ vs.length := by
    have := (pickN_lt o.on (vs.length + 1) (by omega))
    omega
  have key : ∀ {w' : World} {own' : Nat → Nat × Nat} {sr' : Value} {vs' : List Vt} {rs' : List Rg}, Wld w' gw sv sr' sg sw → InvT w' B own' sv sr' sg sw vs' rs' gi wi (k + 1) → (∀ b, b < W1.heap.size → own' b = own b) → FrT own [0, 2, 5, 6] W1 w' → vs'.length ≤ k + 1 → rs'.length ≤ k + 1 → Started o vs rs vs' rs' → IVt B gw (k + 1) (fun vs' rs' gi => ∃ vs rs, L vs rs gi ∧ Started o vs rs vs' rs') w' ∧ Below B W w' := by
    intro w' own' sr' vs' rs' hW' hI' ho hF hl1 hl2 hS
    obtain ⟨a, b⟩ := IVt.of (L := fun vs' rs' gi => ∃ vs rs, L vs rs gi ∧ Started o vs rs vs' rs') hB1 hg hW1.lt hI.V.lo ho hF (by simp) hW' hI' hl1 hl2 (by omega) ⟨vs, rs, hL, hS⟩
    exact ⟨a, (hF1.below hB (by simp)).trans b⟩
  by_cases hp : pickN o.on (vs.length + 1) = vs.length
  · refine Calls.mono (lstart_none W1 gw vs.length sv sr sg sw o (vtL vs) B hO.1 (by omega) hp hW1 hI1.V.ow) ?_
    rintro e w' ⟨rfl, hF⟩
    exact ⟨rfl, key (hW1.fr hF (by simp)) ((hI1.frT (FrT.of hF (by simp))).mono (by omega)) (fun _ _ => rfl) ((FrT.of (T := []) hF (by simp)).sub (by simp)) (by omega) (by omega) (.inl ⟨rfl, rfl, hp⟩)⟩
  · obtain ⟨v, hv⟩ : ∃ v, vs[pickN o.on (vs.length + 1)]? = some v := ⟨vs[pickN o.on (vs.length + 1)]'(by omega), List.getElem?_eq_getElem _⟩
    obtain ⟨a1, a2, a3, a4, a5⟩ := hI1.V.st _ v hv
    obtain ⟨b1, b2, b3⟩ := hI1.cz _ v hv
    have ng : ∀ {x t i}, own x = (t, i) → t ≠ 0 → gw ≠ x := by
      intro x t i hx ht e
      subst e
      rw [hg] at hx
      simp only [Prod.mk.injEq] at hx
      exact ht hx.1.symm
    have nb : ∀ {x t i} (b : Nat), sr.ownBlock = some b → own x = (t, i) → t ≠ 2 → b ≠ x := by
      intro x t i b hb hx ht e
      subst e
      rw [hI1.sl b hb] at hx
      simp only [Prod.mk.injEq] at hx
      exact ht hx.1.symm
    refine Calls.mono (lstart_at W1 B gw (pickN o.on (vs.length + 1)) sv sr sg sw o vs rs v hO.1 (by omega) (by omega) rfl hv hW1 hI1.V.ow hI1.ow hB1 (fun b hb => nb b hb hg (by decide)) a1 ⟨ng a2 (by decide), ng a3 (by decide), ng a4 (by decide)⟩ (fun b hb => ⟨nb b hb a2 (by decide), nb b hb a3 (by decide), nb b hb a4 (by decide)⟩) b1 (by omega)) ?_
    rintro e w' ⟨rfl, v', add, sr', hS⟩
    have hlen : add.length ≤ 1 := by
      rcases hS.ad with ⟨rfl, _⟩ | ⟨r, rfl, _⟩ <;> simp
    obtain ⟨own', hI', ho, hF⟩ := hI1.start hB1 hg hv hS.f1 hS.f2 hS.f3 hS.S (fun j => by rw [hS.cell]) hS.us hS.tn (by rw [hS.wr]; omega) hS.fr (by
      rcases hS.ad with ⟨h1, h2, _⟩ | ⟨r, h1, h2, _, h3, h4, h5, h6, h7⟩
      · exact .inl ⟨h1, h2⟩
      · exact .inr ⟨r, h1, h2, h3, h4, h5, h6, h7⟩) hS.ow hS.hb
    refine ⟨rfl, key hS.wl hI' ho hF (by rw [List.length_set]; omega) (by rw [List.length_append]; omega) (.inr ⟨_, v, v', add, rfl, hv, rfl, rfl, hS.cell, hS.left, ?_⟩)⟩
    rcases hS.ad with ⟨h1, _, h2⟩ | ⟨r, h1, h2, h2', h3, _⟩
    · exact .inl ⟨h1, h2⟩
    · exact .inr ⟨r, h1, h2, h2', h3⟩
set_option maxRecDepth 100000 in
set_option maxHeartbeats 4000000 in
theorem step_none (w : World) (B gw : Nat) (sv sr sg sw : Value) (xs : List Value) (o : OpA) (hw : Wld w gw sv sr sg sw) (ho : w.ownsRow B 50 2 sr 0 xs) (hk : 20 < o.kind) :
    Calls Tryz.prog 6 #[ptr gw, .agg (opC o)] w fun e w' => e = .returned (.bool true) ∧ Fr [] w w' := by
  have hv : sr = .slice none 0 0 ∨ ∃ g cap, sr = .slice (some ⟨g, 0, none⟩) 0 cap := by
    rcases ho.2 with ⟨h, _⟩ | ⟨g, cap, cur, h, _⟩
    · exact .inl h
    · exact .inr ⟨g, cap, h⟩
  have F0 : Fr [] w (w.alloc (.cells (opC o) 37)) := (Fr.refl _ _).alloc _
  have W0 := hw.fr F0 (by simp)
  obtain ⟨c0, c1, c2, c3⟩ := W0.cells
  have HR : Hid _ := F0
  have k1 : ¬ (o.kind < 10) := by omega
  have k2 : (o.kind == 10) = false := by rw [beq_eq_false_iff_ne]; omega
  have k3 : ¬ (o.kind < 20) := by omega
  have k4 : (o.kind == 20) = false := by rw [beq_eq_false_iff_ne]; omega
  unfold opC at c0 c1 c2 c3 HR
  unfold ptr
  rw [show Value.agg (opC o) = .agg #[.int .i64 o.kind, .int .i64 o.on, .int .i64 o.a, .bool o.yes, .string o.s, .string o.t, .string o.u, .string o.v, .int .i64 o.cs, .int .i64 o.ca, .int .i64 o.cm, .int .i64 o.ra, .int .i64 o.ri, .string o.rn, .string o.rb, .string o.rt] from rfl]
  clear hw W0 F0 ho
  rcases hv with rfl | ⟨g, cap, rfl⟩
  · go_enter Tryz.func6, Tryz.ntmps6
    go_wp2
    go_ret
    exact ⟨rfl, HR.out⟩
  · go_enter Tryz.func6, Tryz.ntmps6
    go_wp2
    go_ret
    exact ⟨rfl, HR.out⟩
def Worked (o : OpA) (vs : List Vt) (rs : List Rg) (gi : List ByteArray) (vs' : List Vt) (rs' : List Rg) (gi' : List ByteArray) : Prop :=
  (rs = [] ∧ vs' = vs ∧ rs' = rs ∧ gi' = gi) ∨ ((o.kind = 23 ∨ o.kind = 24 ∨ o.kind = 26) ∧ vs' = vs ∧ rs' = rs ∧ gi' = gi) ∨
  ∃ (q : Nat) (r : Rg) (v : Vt) (r' : Rg) (v' : Vt), rs[q]? = some r ∧ vs[r.v]? = some v ∧ vs' = vs.set r.v v' ∧ rs' = rs.set q r' ∧ r'.gx = r.gx ∧ r'.v = r.v ∧
    ((o.kind = 21 ∧ gi' = gi ∧ ∃ c, createP r.gx v.S r.H o.a o.s o.t o.cs o.ca o.cm c v'.S r'.H) ∨ (o.kind = 25 ∧ gi' = gi ∧ ∃ c, retireP r.gx v.S r.H o.a c v'.S r'.H) ∨
     (o.kind = 22 ∧ ∃ s c, sealP r.gx v.S r.H o.a o.s o.t s c v'.S r'.H ∧ ((c ≠ 0 ∧ gi' = gi) ∨ (c = 0 ∧ gi' = gi ++ [s]))))
theorem seal_sizes {g : Nat} {S S' : Sto} {H H' : Nat → Hd} {id : Int} {m p s : ByteArray} (hH : TOk H) (h : sealP g S H id m p s 0 S' H') : s.size ≤ 1000 ∧ m.size ≤ 1000 := by
  have key : ∀ i, ¬ (180 < m.size ∨ (H i).c.most < p.size) → i < 8 → (H i).c.st ≠ 0 → s = sealR (H i) m p → s.size ≤ 1000 ∧ m.size ≤ 1000 := by
    intro i h1 h2 h3 h4
    obtain ⟨_, _, ⟨_, h5⟩⟩ := (hH i h2 h3).cfg
    refine ⟨?_, by omega⟩
    rw [h4]
    unfold sealR
    rw [encT_len, maskT_size]
    omega
  rcases h with ⟨_, _, h, _⟩ | ⟨_, i, c, hL, ⟨h0, _, h, _⟩ | ⟨rfl, ⟨_, _, h, _⟩ | ⟨hs, ⟨_, _, h, _⟩ | ⟨_, ⟨_, h, _⟩ | ⟨_, ⟨_, _, h, _⟩ | ⟨_, h, _⟩⟩⟩⟩⟩⟩
  · simp at h
  · exact absurd h.symm h0
  · simp at h
  · simp at h
  · exact key i hs hL.at.1 hL.at.2 h
  · simp at h
  · exact key i hs hL.at.1 hL.at.2 h
theorem step_t_work (B gw k : Nat) (L : List Vt → List Rg → List ByteArray → Prop) (o : OpA) (hk : 20 < o.kind ∧ o.kind ≤ 26) (hO : OpWf o) (hkk : k ≤ 1000000000000) (W : World) (h : IVt B gw k L W) :
    Calls Tryz.prog 6 #[ptr gw, .agg (opC o)] W fun e w' => e = .returned (.bool true) ∧ IVt B gw (k + 1) (fun vs' rs' gi' => ∃ vs rs gi, L vs rs gi ∧ Worked o vs rs gi vs' rs' gi') w' ∧ Below B W w' := by
  obtain ⟨hB, own, sv, sr, sg, sw, vs, rs, gi, wi, hW, hg, hI, l1, l2, l3, hL⟩ := h
  by_cases h0 : rs.length = 0
  · have hr0 : rs = [] := List.length_eq_zero_iff.1 h0
    have how := hI.ow
    rw [h0] at how
    refine Calls.mono (step_none W B gw sv sr sg sw _ o hW how hk.1) ?_
    rintro e w' ⟨rfl, hF⟩
    exact ⟨rfl, IVt.of hB hg hW.lt hI.V.lo (fun _ _ => rfl) (FrT.of (T := []) hF (by simp)) (by simp) (hW.fr hF (by simp)) ((hI.frT (FrT.of hF (by simp))).mono (by omega)) (by omega) (by omega) (by omega) ⟨vs, rs, gi, hL, .inl ⟨hr0, rfl, rfl, rfl⟩⟩⟩
  · obtain ⟨gv, cap, hv, _, _⟩ := World.ownsRow.form hI.ow (by omega)
    refine step_worked B gw rs.length gv cap sv sr sg sw o (rgL rs) hv hk.1 hO.on (by omega) (by omega) W hW hI.ow _ ?_
    intro q hq W1 hSR hF1
    have hq2 : rs[q]? = some rs[q] := List.getElem?_eq_getElem hq
    generalize rs[q] = r at hq2
    obtain ⟨o1, o2, o3, v, hv2, hT⟩ := hI.rg q r hq2
    obtain ⟨hS, p1, p2, p3, hwr⟩ := hI.V.st r.v v hv2
    obtain ⟨cz, hct, _⟩ := hI.cz r.v v hv2
    refine ⟨r.gx, r.gr, by rw [rgL_even, hq2]; rfl, by rw [rgL_odd, hq2]; rfl, ?_⟩
    have hI1 := hI.frT (FrT.of hF1 (by simp))
    have hW1 := hW.fr hF1 (by simp)
    have hB1 := Nat.le_trans hB hF1.size
    have hT1 := hT.fr hF1 (by simp) (by simp) (by simp)
    have hS1 := StoB.fr hS hF1 (by simp) (by simp) (by simp)
    have hti := hI1.tabIn hv2
    have bel1 := hF1.below hB (by simp)
    have hmx : (140737488351232 : Nat) ≤ maxLen := by decide
    obtain ⟨tx, tr, th⟩ := hT.lt
    obtain ⟨ux, ur, uc⟩ := hS.lt
    have hgw := hW.lt
    have hin : ∀ b, b ∈ (r.gx :: v.gx :: r.gr :: v.gr :: v.gc :: r.sh.ownBlock.toList) → own b = (8, q) ∨ own b = (5, r.v) ∨ own b = (9, q) ∨ own b = (6, r.v) ∨ own b = (7, r.v) ∨ own b = (10, q) := by
      intro b hb
      simp only [List.mem_cons, Option.mem_toList] at hb
      rcases hb with rfl | rfl | rfl | rfl | rfl | hb
      · exact .inl o1
      · exact .inr (.inl p1)
      · exact .inr (.inr (.inl o2))
      · exact .inr (.inr (.inr (.inl p2)))
      · exact .inr (.inr (.inr (.inr (.inl p3))))
      · exact .inr (.inr (.inr (.inr (.inr (o3 b (by simpa using hb))))))
    have hlts : ∀ b, b ∈ (r.gx :: v.gx :: r.gr :: v.gr :: v.gc :: r.sh.ownBlock.toList) → b < W.heap.size := by
      intro b hb
      simp only [List.mem_cons, Option.mem_toList] at hb
      rcases hb with rfl | rfl | rfl | rfl | rfl | hb
      · exact tx
      · exact ux
      · exact tr
      · exact ur
      · exact uc
      · exact th b (by simpa using hb)
    have hout : ∀ b t, own b = (t, 0) → t ≤ 4 → b ∉ (r.gx :: v.gx :: r.gr :: v.gr :: v.gc :: r.sh.ownBlock.toList) := by
      intro b t hb ht hm
      rcases hin b hm with e | e | e | e | e | e <;> rw [hb] at e <;> simp only [Prod.mk.injEq] at e <;> omega
    have hnew : ∀ b, W.heap.size ≤ b → b ∉ (r.gx :: v.gx :: r.gr :: v.gr :: v.gc :: r.sh.ownBlock.toList) := fun b hb hm => by
      have := hlts b hm
      omega
    have srlt : ∀ b, sr.ownBlock = some b → b < W.heap.size := fun b hb => (World.ownsRow.lt hI.ow b hb).2
    -- nothing turned but new blocks
    have idle : ∀ w', (o.kind = 23 ∨ o.kind = 24 ∨ o.kind = 26) → Fr [] W1 w' → SRg w' B gw W.heap.size rs.length sr o (rgL rs) ∧ IVt B gw (k + 1) (fun vs' rs' gi' => ∃ vs rs gi, L vs rs gi ∧ Worked o vs rs gi vs' rs' gi') w' ∧ Below B W w' := by
      intro w' hkk' hF
      obtain ⟨a, b⟩ := IVt.of (L := fun vs' rs' gi' => ∃ vs rs gi, L vs rs gi ∧ Worked o vs rs gi vs' rs' gi') hB1 hg hW1.lt hI.V.lo (fun _ _ => rfl) (FrT.of (T := []) hF (by simp)) (by simp) (hW1.fr hF (by simp)) ((hI1.frT (FrT.of hF (by simp))).mono (by omega : k ≤ k + 1)) (by omega) (by omega) (by omega) ⟨vs, rs, gi, hL, .inr (.inl ⟨hkk', rfl, rfl, rfl⟩)⟩
      exact ⟨⟨(hW1.fr hF (by simp)).cells.2.1, keepRow hF hSR.op (by simp), ownsFr hSR.ow hF (by simp)⟩, a, bel1.trans b⟩
    -- a call that turns the table
    have turn : ∀ w2 r' v', Wrk W1 w2 B r v r' v' → InvT w2 B (ownS own W1.heap.size q) sv sr sg sw (vs.set r.v v') (rs.set q r') gi wi (k + 1) ∧ FrT own [5, 6, 7, 8, 9, 10] W1 w2 ∧ Wld w2 gw sv sr sg sw ∧ SRg w2 B gw W.heap.size rs.length sr o (rgL rs) := by
      intro w2 r' v' hWk
      obtain ⟨h1, h2⟩ := hI1.work hB1 hq2 hv2 hWk
      have h3 := hW1.fr hWk.fr (hout gw 0 hg (by omega))
      exact ⟨h1, h2, h3, h3.cells.2.1, keepRow hWk.fr hSR.op (hnew _ (Nat.le_refl _)), ownsFr hSR.ow hWk.fr (fun b hb => hout b 2 (hI.sl b hb) (by omega))⟩
    have done : ∀ w2 r' v', Wrk W1 w2 B r v r' v' → Worked o vs rs gi (vs.set r.v v') (rs.set q r') gi → SRg w2 B gw W.heap.size rs.length sr o (rgL rs) ∧ IVt B gw (k + 1) (fun vs' rs' gi' => ∃ vs rs gi, L vs rs gi ∧ Worked o vs rs gi vs' rs' gi') w2 ∧ Below B W w2 := by
      intro w2 r' v' hWk hD
      obtain ⟨h1, h2, h3, h4⟩ := turn w2 r' v' hWk
      obtain ⟨a, b⟩ := IVt.of (L := fun vs' rs' gi' => ∃ vs rs gi, L vs rs gi ∧ Worked o vs rs gi vs' rs' gi') hB1 hg hW1.lt hI.V.lo (own' := ownS own W1.heap.size q) (fun b hb => by unfold ownS; rw [if_pos hb]) h2 (by simp) h3 h1 (by rw [List.length_set]; omega) (by rw [List.length_set]; omega) (by omega) ⟨vs, rs, gi, hL, hD⟩
      exact ⟨h4, a, bel1.trans b⟩
    have hA : Apt gw sg sw := by
      refine ⟨fun b hb e => ?_, fun b hb e => ?_, fun b hb e => ?_⟩
      · have := hI.gl b hb
        rw [e, hg] at this
        simp at this
      · have := hI.xl b hb
        rw [e, hg] at this
        simp at this
      · have h1 := hI.gl b hb
        rw [hI.xl b e] at h1
        simp at h1
    rcases (by omega : o.kind = 21 ∨ o.kind = 22 ∨ o.kind = 23 ∨ o.kind = 24 ∨ o.kind = 25 ∨ o.kind = 26) with h | h | h | h | h | h
    · refine Calls.mono (lwork_create W1 B gw r v o h (Nat.le_trans hO.s hmx) (Nat.le_trans hO.t hmx) hT1 hS1 hti cz hB1 (by omega)) ?_
      rintro e w' ⟨rfl, r', v', c, hWk, hP⟩
      exact ⟨rfl, done w' r' v' hWk (.inr (.inr ⟨q, r, v, r', v', hq2, hv2, rfl, rfl, hWk.e1, hWk.e3, .inl ⟨h, rfl, c, hP⟩⟩))⟩
    · refine Calls.mono (lwork_seal W1 B gw r v o sv sr sg sw gi wi h (Nat.le_trans hO.s hmx) (Nat.le_trans hO.t hmx) hW1 hI1.og hI1.ox (by omega) (by have := hI.le; omega) hA (fun b hb => by
        rcases hb with rfl | hb | hb
        · exact hout b 0 hg (by omega)
        · exact hout b 3 (hI.gl b hb) (by omega)
        · exact hout b 4 (hI.xl b hb) (by omega)) hT1 hS1 hti cz hB1 (by omega)) ?_
      rintro e w' ⟨rfl, r', v', s, c, w2, hWk, hP, ⟨hc, rfl⟩ | ⟨rfl, sg', sw', hG⟩⟩
      · exact ⟨rfl, done w' r' v' hWk (.inr (.inr ⟨q, r, v, r', v', hq2, hv2, rfl, rfl, hWk.e1, hWk.e3, .inr (.inr ⟨h, s, c, hP, .inl ⟨hc, rfl⟩⟩)⟩))⟩
      · obtain ⟨h1, h2, h3, h4⟩ := turn w2 r' v' hWk
        have y1 := hWk.fr.size
        have y0 := hF1.size
        have glt : ∀ b, sg.ownBlock = some b → b < W.heap.size := fun b hb => (World.ownsRow.lt hI.og b hb).2
        have xlt : ∀ b, sw.ownBlock = some b → b < W.heap.size := fun b hb => (World.ownsRow.lt hI.ox b hb).2
        have hg2 : ownS own W1.heap.size q gw = (0, 0) := by unfold ownS; rw [if_pos hW1.lt]; exact hg
        obtain ⟨z1, z2⟩ := seal_sizes hT.rel.tok hP
        obtain ⟨own', h5, h6, h7⟩ := h1.gave (Nat.le_trans hB1 y1) hg2 hG.fr hG.og hG.ox hG.b1 hG.b2 hG.ne z1 z2
        have hnl : ∀ b, W.heap.size ≤ b ∨ sr.ownBlock = some b → b ∉ (gw :: (sg.ownBlock.toList ++ sw.ownBlock.toList)) := by
          intro b hb hm
          simp only [List.mem_cons, List.mem_append, Option.mem_toList] at hm
          rcases hb with hb | hb
          · rcases hm with rfl | hm | hm
            · omega
            · have := glt b (by simpa using hm)
              omega
            · have := xlt b (by simpa using hm)
              omega
          · have h2' := hI.sl b hb
            rcases hm with rfl | hm | hm
            · rw [hg] at h2'; simp at h2'
            · rw [hI.gl b (by simpa using hm)] at h2'; simp at h2'
            · rw [hI.xl b (by simpa using hm)] at h2'; simp at h2'
        have hown : ∀ b, b < W1.heap.size → own' b = own b := fun b hb => by
          rw [h6 b (by omega)]
          unfold ownS
          rw [if_pos hb]
        have hFT : FrT own [0, 3, 4, 5, 6, 7, 8, 9, 10] W1 w' := by
          refine ⟨h7.os.trans h2.os, h7.tape.trans h2.tape, h7.output.trans h2.output, Nat.le_trans h2.size h7.size, fun b hb hn => ?_⟩
          have e : ownS own W1.heap.size q b = own b := by unfold ownS; rw [if_pos hb]
          rw [h7.block b (by omega) (by rw [e]; intro hm; apply hn; simp only [List.mem_cons, List.not_mem_nil, or_false] at hm ⊢; omega), h2.block b hb (by intro hm; apply hn; simp only [List.mem_cons, List.not_mem_nil, or_false] at hm ⊢; omega)]
        obtain ⟨a, b⟩ := IVt.of (L := fun vs' rs' gi' => ∃ vs rs gi, L vs rs gi ∧ Worked o vs rs gi vs' rs' gi') hB1 hg hW1.lt hI.V.lo hown hFT (by simp) hG.wl h5 (by rw [List.length_set]; omega) (by rw [List.length_set]; omega) (by rw [List.length_append]; simp; omega) ⟨vs, rs, gi, hL, .inr (.inr ⟨q, r, v, r', v', hq2, hv2, rfl, rfl, hWk.e1, hWk.e3, .inr (.inr ⟨h, s, 0, hP, .inr ⟨rfl, rfl⟩⟩)⟩)⟩
        exact ⟨rfl, ⟨hG.wl.cells.2.1, keepRow hG.fr h4.op (hnl _ (.inl (Nat.le_refl _))), ownsFr h4.ow hG.fr (fun b hb => hnl b (.inr hb))⟩, a, bel1.trans b⟩
    · refine Calls.mono (lwork_open W1 B gw r v o h (Nat.le_trans hO.s hmx) (Nat.le_trans hO.t hmx) hT1 hS1 hti) ?_
      rintro e w' ⟨rfl, hF⟩
      exact ⟨rfl, idle w' (.inl h) hF⟩
    · refine Calls.mono (lwork_again W1 B gw r v o sv sr sg sw gi wi h hO.a hO.s hW1 hI1.og hI1.ox hI.le (by omega) hI.gz hI.wz hT1 hS1 hti) ?_
      rintro e w' ⟨rfl, hF⟩
      exact ⟨rfl, idle w' (.inr (.inl h)) hF⟩
    · refine Calls.mono (lwork_retire W1 B gw r v o h hT1 hS1 hti cz hB1 (by omega)) ?_
      rintro e w' ⟨rfl, r', v', c, hWk, hP⟩
      exact ⟨rfl, done w' r' v' hWk (.inr (.inr ⟨q, r, v, r', v', hq2, hv2, rfl, rfl, hWk.e1, hWk.e3, .inr (.inl ⟨h, rfl, c, hP⟩)⟩))⟩
    · refine Calls.mono (lwork_status W1 B gw r v o h hT1) ?_
      rintro e w' ⟨rfl, hF⟩
      exact ⟨rfl, idle w' (.inr (.inr h)) hF⟩
end Go.Proofs.YtgalgjmhdbncbabGreat
