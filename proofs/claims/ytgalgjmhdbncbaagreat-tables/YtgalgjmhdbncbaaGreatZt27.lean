import Derived.Test.YtgalgjmhdbncbaaGreatZt22
import Derived.Test.YtgalgjmhdbncbaaGreatZt25
import Derived.Test.YtgalgjmhdbncbaaGreatZt26
namespace Go.Proofs.YtgalgjmhdbncbaaGreat
open Go.RowKit
attribute [local go_sem ↓] Go.wp_at_zero Go.wp_at_succ

def IVt (B gw k : Nat) (L : List Vt → List Rg → List ByteArray → Prop) (W : World) : Prop :=
  B ≤ W.heap.size ∧ ∃ own sv sr sg sw vs rs gi wi, Wld W gw sv sr sg sw ∧ own gw = (0, 0) ∧ InvT W B own sv sr sg sw vs rs gi wi k ∧ vs.length ≤ k ∧ rs.length ≤ k ∧ gi.length ≤ k ∧ L vs rs gi
theorem IVt.mono {B gw k : Nat} {W : World} {L L' : List Vt → List Rg → List ByteArray → Prop} (h : IVt B gw k L W) (hL : ∀ vs rs gi, L vs rs gi → L' vs rs gi) : IVt B gw k L' W := by
  obtain ⟨hB, own, sv, sr, sg, sw, vs, rs, gi, wi, a, b, c, d, e, f, g⟩ := h
  exact ⟨hB, own, sv, sr, sg, sw, vs, rs, gi, wi, a, b, c, d, e, f, hL _ _ _ g⟩
theorem IVt.fr {B gw k : Nat} {W W' : World} {L : List Vt → List Rg → List ByteArray → Prop} (h : IVt B gw k L W) (hf : Fr [] W W') : IVt B gw k L W' := by
  obtain ⟨hB, own, sv, sr, sg, sw, vs, rs, gi, wi, a, b, c, d, e, f, g⟩ := h
  exact ⟨Nat.le_trans hB hf.size, own, sv, sr, sg, sw, vs, rs, gi, wi, a.fr hf (by simp), b, c.frT (FrT.of hf (by simp)), d, e, f, g⟩
theorem IVt.next {B gw k : Nat} {W : World} {L : List Vt → List Rg → List ByteArray → Prop} (h : IVt B gw k L W) : IVt B gw (k + 1) L W := by
  obtain ⟨hB, own, sv, sr, sg, sw, vs, rs, gi, wi, a, b, c, d, e, f, g⟩ := h
  exact ⟨hB, own, sv, sr, sg, sw, vs, rs, gi, wi, a, b, c.mono (by omega), by omega, by omega, by omega, g⟩
theorem IVt.new (W : World) (B : Nat) (hB : B ≤ W.heap.size) : IVt B W.heap.size 0 (fun vs rs gi => vs = [] ∧ rs = [] ∧ gi = []) (W.alloc (.cells #[nilS, nilS, nilS, nilS] 48)) := by
  have hn : ∀ b, nilS.ownBlock = some b → False := fun b hb => by simp [nilS, Value.ownBlock] at hb
  refine ⟨by simp; omega, fun b => if b < B then (99, 0) else (0, 0), nilS, nilS, nilS, nilS, [], [], [], [], heap_of_new _ _ _ rfl, by simp; omega, ⟨⟨World.ownsRow_nil _ _ _ _, fun b hb => (hn b hb).elim, fun i v hi => by simp at hi, fun b hb => by simp [hb]⟩, fun i v hi => by simp at hi, World.ownsRow_nil _ _ _ _, fun b hb => (hn b hb).elim, fun i v hi => by simp at hi, World.ownsRow_nil _ _ _ _, fun b hb => (hn b hb).elim, World.ownsRow_nil _ _ _ _, fun b hb => (hn b hb).elim, rfl, fun i v hi => by simp at hi, fun i v hi => by simp at hi⟩, by simp, by simp, by simp, rfl, rfl, rfl⟩
theorem stored_ok (o : OpA) (S : Sto) (h : ∀ j, j < 8 → (S.cell j).size ≤ 64) : ∀ j, j < 8 → ((storedM o S).cell j).size ≤ 64 := by
  intro j hj
  unfold storedM
  split
  · unfold wroteM
    split
    · exact h j hj
    · split
      · exact h j hj
      · dsimp only
        split
        · exact h j hj
        · dsimp only
          split
          · omega
          · exact h j hj
  · split
    · unfold interM
      split
      · exact h j hj
      · exact h j hj
    · exact h j hj
theorem IVt.of {B gw k : Nat} {W w' : World} {own own' : Nat → Nat × Nat} {sv' sr sg sw : Value} {vs' : List Vt} {rs : List Rg} {gi wi : List ByteArray} {T : List Nat} {L : List Vt → List Rg → List ByteArray → Prop} (hB : B ≤ W.heap.size) (hg : own gw = (0, 0)) (hgl : gw < W.heap.size) (hlo : ∀ b, b < B → own b = (99, 0)) (ho : ∀ b, b < W.heap.size → own' b = own b) (hF : FrT own T W w') (h99 : 99 ∉ T) (hW : Wld w' gw sv' sr sg sw) (hI : InvT w' B own' sv' sr sg sw vs' rs gi wi (k + 1)) (l1 : vs'.length ≤ k + 1) (l2 : rs.length ≤ k + 1) (l3 : gi.length ≤ k + 1) (hL : L vs' rs gi) : IVt B gw (k + 1) L w' ∧ Below B W w' :=
  ⟨⟨Nat.le_trans hB hF.size, own', sv', sr, sg, sw, vs', rs, gi, wi, hW, by rw [ho gw hgl]; exact hg, hI, l1, l2, l3, hL⟩, hF.below hB (fun b hb => by rw [hlo b hb]; exact h99)⟩
theorem step_t_new (B gw k : Nat) (L : List Vt → List Rg → List ByteArray → Prop) (o : OpA) (hk : o.kind = 10) (hkk : k ≤ 1000000000000) (W : World) (h : IVt B gw k L W) :
    Calls Tryz.prog 14 #[ptr gw, .agg (opC o)] W fun e w' => e = .returned (.bool true) ∧ IVt B gw (k + 1) (fun vs' rs gi => ∃ vs gx gr gc, L vs rs gi ∧ vs' = vs ++ [⟨gx, gr, gc, newSto, newR⟩]) w' ∧ Below B W w' := by
  obtain ⟨hB, own, sv, sr, sg, sw, vs, rs, gi, wi, hW, hg, hI, l1, l2, l3, hL⟩ := h
  refine Calls.mono (step_new W B gw own sv sr sg sw vs k o hW hg hI.V hB hk (by omega)) ?_
  rintro e w' ⟨rfl, own', sv', vs', ⟨gx, gr, gc, hD⟩, hW', hV, hl, hE, ho, hF⟩
  refine ⟨rfl, IVt.of hB hg hW.lt hI.V.lo ho hF (by simp) hW' (hI.stored hV hE ho hF ?_) (by omega) (by omega) (by omega) ⟨vs, gx, gr, gc, hL, hD⟩⟩
  intro i v hi
  rw [hD] at hi
  rcases Nat.lt_or_ge i vs.length with hlt | hge
  · rw [List.getElem?_append_left hlt] at hi
    obtain ⟨a, b, c⟩ := hI.cz i v hi
    exact ⟨a, by omega, c⟩
  · rw [List.getElem?_append_right hge] at hi
    have hj := getE_lt hi
    simp only [List.length_cons, List.length_nil] at hj
    rw [show i - vs.length = 0 by omega] at hi
    simp only [List.getElem?_cons_zero, Option.some.injEq] at hi
    subst hi
    exact ⟨fun j _ => by show (⟨#[]⟩ : ByteArray).size ≤ 64; decide, by show 0 ≤ _; omega, fun t ht => by simp [newSto] at ht⟩
theorem step_t_call (B gw k : Nat) (L : List Vt → List Rg → List ByteArray → Prop) (o : OpA) (hk : 10 < o.kind ∧ o.kind < 20) (hO : OpOk o) (hkk : k ≤ 1000000000000) (W : World) (h : IVt B gw k L W) :
    Calls Tryz.prog 14 #[ptr gw, .agg (opC o)] W fun e w' => e = .returned (.bool true) ∧ IVt B gw (k + 1) (fun vs' rs gi => ∃ vs, L vs rs gi ∧ ((vs = [] ∧ vs' = vs) ∨ Called o vs vs')) w' ∧ Below B W w' := by
  obtain ⟨hB, own, sv, sr, sg, sw, vs, rs, gi, wi, hW, hg, hI, l1, l2, l3, hL⟩ := h
  by_cases h0 : vs.length = 0
  · refine Calls.mono (step_idle W B gw own sv sr sg sw vs k o hW hI.V hk h0) ?_
    rintro e w' ⟨rfl, own', sv', vs', hD, hW', hV, hl, hE, ho, hF⟩
    have hD2 : vs' = vs := hD
    subst hD2
    refine ⟨rfl, IVt.of hB hg hW.lt hI.V.lo ho hF (by simp) hW' (hI.stored hV hE ho hF ?_) (by omega) (by omega) (by omega) ⟨_, hL, .inl ⟨List.length_eq_zero_iff.1 h0, rfl⟩⟩⟩
    intro i v hi
    obtain ⟨a, b, c⟩ := hI.cz i v hi
    exact ⟨a, by omega, c⟩
  · refine Calls.mono (step_call W B gw own sv sr sg sw vs k o hW hg hI.V hk hO.1 hO.2 (by omega) (by omega) (by omega)) ?_
    rintro e w' ⟨rfl, own', sv', vs', hD, hW', hV, hl, hE, ho, hF⟩
    refine ⟨rfl, IVt.of hB hg hW.lt hI.V.lo ho hF (by simp) hW' (hI.stored hV hE ho hF ?_) (by omega) (by omega) (by omega) ⟨_, hL, .inr hD⟩⟩
    intro i v' hi
    have hlen := hD.len
    obtain ⟨v, hv⟩ : ∃ v, vs[i]? = some v := ⟨vs[i]'(by have := getE_lt hi; omega), List.getElem?_eq_getElem _⟩
    obtain ⟨a, b, c⟩ := hI.cz i v hv
    obtain ⟨v2, hv2, _, _, _, e4, _, e6⟩ := hE i v hv
    rw [hi] at hv2
    simp only [Option.some.injEq] at hv2
    subst hv2
    refine ⟨?_, by rw [e6]; omega, by rw [e4]; exact c⟩
    obtain ⟨q, u, R', hq, rfl⟩ := hD
    rcases set_at hq hi with ⟨rfl, rfl⟩ | ⟨hn, hi2⟩
    · rw [hq] at hv
      simp only [Option.some.injEq] at hv
      subst hv
      exact stored_ok o _ a
    · exact (hI.cz i v' hi2).1
set_option maxRecDepth 100000 in
set_option maxHeartbeats 4000000 in
theorem step_20 (gw : Nat) (o : OpA) (hk : o.kind = 20) (w : World) (Q : World → Prop) (hc : ∀ W, Fr [] w W → Calls Tryz.prog 31 #[ptr gw, .agg (opC o)] W fun e w' => e = .returned (.bool true) ∧ Q w') :
    Calls Tryz.prog 14 #[ptr gw, .agg (opC o)] w fun e w' => e = .returned (.bool true) ∧ Q w' := by
  have F0 : Fr [] w (w.alloc (.cells (opC o) 54)) := (Fr.refl _ _).alloc _
  have h1 := hc _ F0
  clear hc F0
  unfold ptr at h1 ⊢
  rw [show Value.agg (opC o) = .agg #[.int .i64 o.kind, .int .i64 o.on, .int .i64 o.a, .bool o.yes, .string o.s, .string o.t, .string o.u, .string o.v, .int .i64 o.cs, .int .i64 o.ca, .int .i64 o.cm, .int .i64 o.ra, .int .i64 o.ri, .string o.rn, .string o.rb, .string o.rt] from rfl] at h1 ⊢
  unfold opC at h1
  rw [hk] at h1 ⊢
  have H1 : Hid _ := h1
  clear hk h1
  go_enter Tryz.func14, Tryz.ntmps14
  go_wp2_with fail
  refine Calls.mono H1.out ?_
  rintro e w1 ⟨rfl, hQ⟩
  have HQ : Hid _ := hQ
  clear hQ
  go_wp2
  go_ret
  exact ⟨rfl, HQ.out⟩
def Started (o : OpA) (vs : List Vt) (rs : List Rg) (vs' : List Vt) (rs' : List Rg) : Prop :=
  (vs' = vs ∧ rs' = rs ∧ pickN o.on (vs.length + 1) = vs.length) ∨ ∃ i v v' add, pickN o.on (vs.length + 1) = i ∧ vs[i]? = some v ∧ vs' = vs.set i v' ∧ rs' = rs ++ add ∧ v'.S.cell = v.S.cell ∧ v'.S.left = v.S.left ∧ ((add = [] ∧ ¬ ∀ j, j < 8 → CellOk v.S j) ∨ ∃ r, add = [r] ∧ r.v = i ∧ r.H = stH v.S 8 ∧ v'.S.tab = some r.gx)
theorem step_t_start (B gw k : Nat) (L : List Vt → List Rg → List ByteArray → Prop) (o : OpA) (hk : o.kind = 20) (hO : OpOk o) (hkk : k ≤ 1000000000000) (W : World) (h : IVt B gw k L W) :
    Calls Tryz.prog 14 #[ptr gw, .agg (opC o)] W fun e w' => e = .returned (.bool true) ∧ IVt B gw (k + 1) (fun vs' rs' gi => ∃ vs rs, L vs rs gi ∧ Started o vs rs vs' rs') w' ∧ Below B W w' := by
  obtain ⟨hB, own, sv, sr, sg, sw, vs, rs, gi, wi, hW, hg, hI, l1, l2, l3, hL⟩ := h
  refine step_20 gw o hk W _ ?_
  intro W1 hF1
  have hI1 := hI.frT (FrT.of hF1 (by simp))
  have hW1 := hW.fr hF1 (by simp)
  have hB1 := Nat.le_trans hB hF1.size
  have hlt : pickN o.on (vs.length + 1) ≤ vs.length := by
    have := (pickN_lt o.on (vs.length + 1) (by omega))
    omega
  have key : ∀ {w' : World} {own' : Nat → Nat × Nat} {sr' : Value} {vs' : List Vt} {rs' : List Rg}, Wld w' gw sv sr' sg sw → InvT w' B own' sv sr' sg sw vs' rs' gi wi (k + 1) → (∀ b, b < W1.heap.size → own' b = own b) → FrT own [0, 2, 5, 6] W1 w' → vs'.length ≤ k + 1 → rs'.length ≤ k + 1 → Started o vs rs vs' rs' → IVt B gw (k + 1) (fun vs' rs' gi => ∃ vs rs, L vs rs gi ∧ Started o vs rs vs' rs') w' ∧ Below B W w' := by
    intro w' own' sr' vs' rs' hW' hI' ho hF hl1 hl2 hS
    obtain ⟨a, b⟩ := IVt.of (L := fun vs' rs' gi => ∃ vs rs, L vs rs gi ∧ Started o vs rs vs' rs') hB1 hg hW1.lt hI.V.lo ho hF (by simp) hW' hI' hl1 hl2 (by omega) ⟨vs, rs, hL, hS⟩
    exact ⟨a, (hF1.below hB (by simp)).trans b⟩
  by_cases hp : pickN o.on (vs.length + 1) = vs.length
  · refine Calls.mono (lstart_none W1 gw vs.length sv sr sg sw o (vtL vs) B hO.1 (by omega) hp hW1 hI1.V.ow) ?_
    rintro e w' ⟨rfl, hF⟩
    exact ⟨rfl, key (hW1.fr hF (by simp)) ((hI1.frT (FrT.of hF (by simp))).mono (by omega)) (fun _ _ => rfl) ((FrT.of (T := []) hF (by simp)).sub (by simp)) (by omega) (by omega) (.inl ⟨rfl, rfl, hp⟩)⟩
  · obtain ⟨v, hv⟩ : ∃ v, vs[pickN o.on (vs.length + 1)]? = some v := ⟨vs[pickN o.on (vs.length + 1)]'(by omega), List.getElem?_eq_getElem _⟩
    obtain ⟨a1, a2, a3, a4, a5⟩ := hI1.V.st _ v hv
    obtain ⟨b1, b2, b3⟩ := hI1.cz _ v hv
    have ng : ∀ {x t i}, own x = (t, i) → t ≠ 0 → gw ≠ x := by
      intro x t i hx ht e
      subst e
      rw [hg] at hx
      simp only [Prod.mk.injEq] at hx
      exact ht hx.1.symm
    have nb : ∀ {x t i} (b : Nat), sr.ownBlock = some b → own x = (t, i) → t ≠ 2 → b ≠ x := by
      intro x t i b hb hx ht e
      subst e
      rw [hI1.sl b hb] at hx
      simp only [Prod.mk.injEq] at hx
      exact ht hx.1.symm
    refine Calls.mono (lstart_at W1 B gw (pickN o.on (vs.length + 1)) sv sr sg sw o vs rs v hO.1 (by omega) (by omega) rfl hv hW1 hI1.V.ow hI1.ow hB1 (fun b hb => nb b hb hg (by decide)) a1 ⟨ng a2 (by decide), ng a3 (by decide), ng a4 (by decide)⟩ (fun b hb => ⟨nb b hb a2 (by decide), nb b hb a3 (by decide), nb b hb a4 (by decide)⟩) b1 (by omega)) ?_
    rintro e w' ⟨rfl, v', add, sr', hS⟩
    have hlen : add.length ≤ 1 := by
      rcases hS.ad with ⟨rfl, _⟩ | ⟨r, rfl, _⟩ <;> simp
    obtain ⟨own', hI', ho, hF⟩ := hI1.start hB1 hg hv hS.f1 hS.f2 hS.f3 hS.S (fun j => by rw [hS.cell]) hS.us hS.tn (by rw [hS.wr]; omega) hS.fr (by
      rcases hS.ad with ⟨h1, h2, _⟩ | ⟨r, h1, h2, _, h3, h4, h5, h6, h7⟩
      · exact .inl ⟨h1, h2⟩
      · exact .inr ⟨r, h1, h2, h3, h4, h5, h6, h7⟩) hS.ow hS.hb
    refine ⟨rfl, key hS.wl hI' ho hF (by rw [List.length_set]; omega) (by rw [List.length_append]; omega) (.inr ⟨_, v, v', add, rfl, hv, rfl, rfl, hS.cell, hS.left, ?_⟩)⟩
    rcases hS.ad with ⟨h1, _, h2⟩ | ⟨r, h1, h2, h2', h3, _⟩
    · exact .inl ⟨h1, h2⟩
    · exact .inr ⟨r, h1, h2, h2', h3⟩
set_option maxRecDepth 100000 in
set_option maxHeartbeats 4000000 in
theorem step_none (w : World) (B gw : Nat) (sv sr sg sw : Value) (xs : List Value) (o : OpA) (hw : Wld w gw sv sr sg sw) (ho : w.ownsRow B 81 2 sr 0 xs) (hk : 20 < o.kind) :
    Calls Tryz.prog 14 #[ptr gw, .agg (opC o)] w fun e w' => e = .returned (.bool true) ∧ Fr [] w w' := by
  have hv : sr = .slice none 0 0 ∨ ∃ g cap, sr = .slice (some ⟨g, 0, none⟩) 0 cap := by
    rcases ho.2 with ⟨h, _⟩ | ⟨g, cap, cur, h, _⟩
    · exact .inl h
    · exact .inr ⟨g, cap, h⟩
  have F0 : Fr [] w (w.alloc (.cells (opC o) 54)) := (Fr.refl _ _).alloc _
  have W0 := hw.fr F0 (by simp)
  obtain ⟨c0, c1, c2, c3⟩ := W0.cells
  have HR : Hid _ := F0
  have k1 : ¬ (o.kind < 10) := by omega
  have k2 : (o.kind == 10) = false := by rw [beq_eq_false_iff_ne]; omega
  have k3 : ¬ (o.kind < 20) := by omega
  have k4 : (o.kind == 20) = false := by rw [beq_eq_false_iff_ne]; omega
  unfold opC at c0 c1 c2 c3 HR
  unfold ptr
  rw [show Value.agg (opC o) = .agg #[.int .i64 o.kind, .int .i64 o.on, .int .i64 o.a, .bool o.yes, .string o.s, .string o.t, .string o.u, .string o.v, .int .i64 o.cs, .int .i64 o.ca, .int .i64 o.cm, .int .i64 o.ra, .int .i64 o.ri, .string o.rn, .string o.rb, .string o.rt] from rfl]
  clear hw W0 F0 ho
  rcases hv with rfl | ⟨g, cap, rfl⟩
  · go_enter Tryz.func14, Tryz.ntmps14
    go_wp2
    go_ret
    exact ⟨rfl, HR.out⟩
  · go_enter Tryz.func14, Tryz.ntmps14
    go_wp2
    go_ret
    exact ⟨rfl, HR.out⟩
def Worked (o : OpA) (vs : List Vt) (rs : List Rg) (gi : List ByteArray) (vs' : List Vt) (rs' : List Rg) (gi' : List ByteArray) : Prop :=
  (rs = [] ∧ vs' = vs ∧ rs' = rs ∧ gi' = gi) ∨ ((o.kind = 23 ∨ o.kind = 24 ∨ o.kind = 26) ∧ vs' = vs ∧ rs' = rs ∧ gi' = gi) ∨
  ∃ (q : Nat) (r : Rg) (v : Vt) (r' : Rg) (v' : Vt), rs[q]? = some r ∧ vs[r.v]? = some v ∧ vs' = vs.set r.v v' ∧ rs' = rs.set q r' ∧ r'.gx = r.gx ∧ r'.v = r.v ∧
    ((o.kind = 21 ∧ gi' = gi ∧ ∃ c, createP r.gx v.S r.H o.a o.s o.t o.cs o.ca o.cm c v'.S r'.H) ∨ (o.kind = 25 ∧ gi' = gi ∧ ∃ c, retireP r.gx v.S r.H o.a c v'.S r'.H) ∨
     (o.kind = 22 ∧ ∃ s c, sealP r.gx v.S r.H o.a o.s o.t s c v'.S r'.H ∧ ((c ≠ 0 ∧ gi' = gi) ∨ (c = 0 ∧ gi' = gi ++ [s]))))
theorem seal_sizes {g : Nat} {S S' : Sto} {H H' : Nat → Hd} {id : Int} {m p s : ByteArray} (hH : TOk H) (h : sealP g S H id m p s 0 S' H') : s.size ≤ 1000 ∧ m.size ≤ 1000 := by
  have key : ∀ i, ¬ (180 < m.size ∨ (H i).c.most < p.size) → i < 8 → (H i).c.st ≠ 0 → s = sealR (H i) m p → s.size ≤ 1000 ∧ m.size ≤ 1000 := by
    intro i h1 h2 h3 h4
    obtain ⟨_, _, ⟨_, h5⟩⟩ := (hH i h2 h3).cfg
    refine ⟨?_, by omega⟩
    rw [h4]
    unfold sealR
    rw [encT_len, maskT_size]
    omega
  rcases h with ⟨_, _, h, _⟩ | ⟨_, i, c, hL, ⟨h0, _, h, _⟩ | ⟨rfl, ⟨_, _, h, _⟩ | ⟨hs, ⟨_, _, h, _⟩ | ⟨_, ⟨_, h, _⟩ | ⟨_, ⟨_, _, h, _⟩ | ⟨_, h, _⟩⟩⟩⟩⟩⟩
  · simp at h
  · exact absurd h.symm h0
  · simp at h
  · simp at h
  · exact key i hs hL.at.1 hL.at.2 h
  · simp at h
  · exact key i hs hL.at.1 hL.at.2 h
theorem step_t_work (B gw k : Nat) (L : List Vt → List Rg → List ByteArray → Prop) (o : OpA) (hk : 20 < o.kind ∧ o.kind ≤ 26) (hO : OpWf o) (hkk : k ≤ 1000000000000) (W : World) (h : IVt B gw k L W) :
    Calls Tryz.prog 14 #[ptr gw, .agg (opC o)] W fun e w' => e = .returned (.bool true) ∧ IVt B gw (k + 1) (fun vs' rs' gi' => ∃ vs rs gi, L vs rs gi ∧ Worked o vs rs gi vs' rs' gi') w' ∧ Below B W w' := by
  obtain ⟨hB, own, sv, sr, sg, sw, vs, rs, gi, wi, hW, hg, hI, l1, l2, l3, hL⟩ := h
  by_cases h0 : rs.length = 0
  · have hr0 : rs = [] := List.length_eq_zero_iff.1 h0
    have how := hI.ow
    rw [h0] at how
    refine Calls.mono (step_none W B gw sv sr sg sw _ o hW how hk.1) ?_
    rintro e w' ⟨rfl, hF⟩
    exact ⟨rfl, IVt.of hB hg hW.lt hI.V.lo (fun _ _ => rfl) (FrT.of (T := []) hF (by simp)) (by simp) (hW.fr hF (by simp)) ((hI.frT (FrT.of hF (by simp))).mono (by omega)) (by omega) (by omega) (by omega) ⟨vs, rs, gi, hL, .inl ⟨hr0, rfl, rfl, rfl⟩⟩⟩
  · obtain ⟨gv, cap, hv, _, _⟩ := World.ownsRow.form hI.ow (by omega)
    refine step_worked B gw rs.length gv cap sv sr sg sw o (rgL rs) hv hk.1 hO.on (by omega) (by omega) W hW hI.ow _ ?_
    intro q hq W1 hSR hF1
    have hq2 : rs[q]? = some rs[q] := List.getElem?_eq_getElem hq
    generalize rs[q] = r at hq2
    obtain ⟨o1, o2, o3, v, hv2, hT⟩ := hI.rg q r hq2
    obtain ⟨hS, p1, p2, p3, hwr⟩ := hI.V.st r.v v hv2
    obtain ⟨cz, hct, _⟩ := hI.cz r.v v hv2
    refine ⟨r.gx, r.gr, by rw [rgL_even, hq2]; rfl, by rw [rgL_odd, hq2]; rfl, ?_⟩
    have hI1 := hI.frT (FrT.of hF1 (by simp))
    have hW1 := hW.fr hF1 (by simp)
    have hB1 := Nat.le_trans hB hF1.size
    have hT1 := hT.fr hF1 (by simp) (by simp) (by simp)
    have hS1 := StoB.fr hS hF1 (by simp) (by simp) (by simp)
    have hti := hI1.tabIn hv2
    have bel1 := hF1.below hB (by simp)
    have hmx : (140737488351232 : Nat) ≤ maxLen := by decide
    obtain ⟨tx, tr, th⟩ := hT.lt
    obtain ⟨ux, ur, uc⟩ := hS.lt
    have hgw := hW.lt
    have hin : ∀ b, b ∈ (r.gx :: v.gx :: r.gr :: v.gr :: v.gc :: r.sh.ownBlock.toList) → own b = (8, q) ∨ own b = (5, r.v) ∨ own b = (9, q) ∨ own b = (6, r.v) ∨ own b = (7, r.v) ∨ own b = (10, q) := by
      intro b hb
      simp only [List.mem_cons, Option.mem_toList] at hb
      rcases hb with rfl | rfl | rfl | rfl | rfl | hb
      · exact .inl o1
      · exact .inr (.inl p1)
      · exact .inr (.inr (.inl o2))
      · exact .inr (.inr (.inr (.inl p2)))
      · exact .inr (.inr (.inr (.inr (.inl p3))))
      · exact .inr (.inr (.inr (.inr (.inr (o3 b (by simpa using hb))))))
    have hlts : ∀ b, b ∈ (r.gx :: v.gx :: r.gr :: v.gr :: v.gc :: r.sh.ownBlock.toList) → b < W.heap.size := by
      intro b hb
      simp only [List.mem_cons, Option.mem_toList] at hb
      rcases hb with rfl | rfl | rfl | rfl | rfl | hb
      · exact tx
      · exact ux
      · exact tr
      · exact ur
      · exact uc
      · exact th b (by simpa using hb)
    have hout : ∀ b t, own b = (t, 0) → t ≤ 4 → b ∉ (r.gx :: v.gx :: r.gr :: v.gr :: v.gc :: r.sh.ownBlock.toList) := by
      intro b t hb ht hm
      rcases hin b hm with e | e | e | e | e | e <;> rw [hb] at e <;> simp only [Prod.mk.injEq] at e <;> omega
    have hnew : ∀ b, W.heap.size ≤ b → b ∉ (r.gx :: v.gx :: r.gr :: v.gr :: v.gc :: r.sh.ownBlock.toList) := fun b hb hm => by
      have := hlts b hm
      omega
    have srlt : ∀ b, sr.ownBlock = some b → b < W.heap.size := fun b hb => (World.ownsRow.lt hI.ow b hb).2
    -- nothing turned but new blocks
    have idle : ∀ w', (o.kind = 23 ∨ o.kind = 24 ∨ o.kind = 26) → Fr [] W1 w' → SRg w' B gw W.heap.size rs.length sr o (rgL rs) ∧ IVt B gw (k + 1) (fun vs' rs' gi' => ∃ vs rs gi, L vs rs gi ∧ Worked o vs rs gi vs' rs' gi') w' ∧ Below B W w' := by
      intro w' hkk' hF
      obtain ⟨a, b⟩ := IVt.of (L := fun vs' rs' gi' => ∃ vs rs gi, L vs rs gi ∧ Worked o vs rs gi vs' rs' gi') hB1 hg hW1.lt hI.V.lo (fun _ _ => rfl) (FrT.of (T := []) hF (by simp)) (by simp) (hW1.fr hF (by simp)) ((hI1.frT (FrT.of hF (by simp))).mono (by omega : k ≤ k + 1)) (by omega) (by omega) (by omega) ⟨vs, rs, gi, hL, .inr (.inl ⟨hkk', rfl, rfl, rfl⟩)⟩
      exact ⟨⟨(hW1.fr hF (by simp)).cells.2.1, keepRow hF hSR.op (by simp), ownsFr hSR.ow hF (by simp)⟩, a, bel1.trans b⟩
    -- a call that turns the table
    have turn : ∀ w2 r' v', Wrk W1 w2 B r v r' v' → InvT w2 B (ownS own W1.heap.size q) sv sr sg sw (vs.set r.v v') (rs.set q r') gi wi (k + 1) ∧ FrT own [5, 6, 7, 8, 9, 10] W1 w2 ∧ Wld w2 gw sv sr sg sw ∧ SRg w2 B gw W.heap.size rs.length sr o (rgL rs) := by
      intro w2 r' v' hWk
      obtain ⟨h1, h2⟩ := hI1.work hB1 hq2 hv2 hWk
      have h3 := hW1.fr hWk.fr (hout gw 0 hg (by omega))
      exact ⟨h1, h2, h3, h3.cells.2.1, keepRow hWk.fr hSR.op (hnew _ (Nat.le_refl _)), ownsFr hSR.ow hWk.fr (fun b hb => hout b 2 (hI.sl b hb) (by omega))⟩
    have done : ∀ w2 r' v', Wrk W1 w2 B r v r' v' → Worked o vs rs gi (vs.set r.v v') (rs.set q r') gi → SRg w2 B gw W.heap.size rs.length sr o (rgL rs) ∧ IVt B gw (k + 1) (fun vs' rs' gi' => ∃ vs rs gi, L vs rs gi ∧ Worked o vs rs gi vs' rs' gi') w2 ∧ Below B W w2 := by
      intro w2 r' v' hWk hD
      obtain ⟨h1, h2, h3, h4⟩ := turn w2 r' v' hWk
      obtain ⟨a, b⟩ := IVt.of (L := fun vs' rs' gi' => ∃ vs rs gi, L vs rs gi ∧ Worked o vs rs gi vs' rs' gi') hB1 hg hW1.lt hI.V.lo (own' := ownS own W1.heap.size q) (fun b hb => by unfold ownS; rw [if_pos hb]) h2 (by simp) h3 h1 (by rw [List.length_set]; omega) (by rw [List.length_set]; omega) (by omega) ⟨vs, rs, gi, hL, hD⟩
      exact ⟨h4, a, bel1.trans b⟩
    have hA : Apt gw sg sw := by
      refine ⟨fun b hb e => ?_, fun b hb e => ?_, fun b hb e => ?_⟩
      · have := hI.gl b hb
        rw [e, hg] at this
        simp at this
      · have := hI.xl b hb
        rw [e, hg] at this
        simp at this
      · have h1 := hI.gl b hb
        rw [hI.xl b e] at h1
        simp at h1
    rcases (by omega : o.kind = 21 ∨ o.kind = 22 ∨ o.kind = 23 ∨ o.kind = 24 ∨ o.kind = 25 ∨ o.kind = 26) with h | h | h | h | h | h
    · refine Calls.mono (lwork_create W1 B gw r v o h (Nat.le_trans hO.s hmx) (Nat.le_trans hO.t hmx) hT1 hS1 hti cz hB1 (by omega)) ?_
      rintro e w' ⟨rfl, r', v', c, hWk, hP⟩
      exact ⟨rfl, done w' r' v' hWk (.inr (.inr ⟨q, r, v, r', v', hq2, hv2, rfl, rfl, hWk.e1, hWk.e3, .inl ⟨h, rfl, c, hP⟩⟩))⟩
    · refine Calls.mono (lwork_seal W1 B gw r v o sv sr sg sw gi wi h (Nat.le_trans hO.s hmx) (Nat.le_trans hO.t hmx) hW1 hI1.og hI1.ox (by omega) (by have := hI.le; omega) hA (fun b hb => by
        rcases hb with rfl | hb | hb
        · exact hout b 0 hg (by omega)
        · exact hout b 3 (hI.gl b hb) (by omega)
        · exact hout b 4 (hI.xl b hb) (by omega)) hT1 hS1 hti cz hB1 (by omega)) ?_
      rintro e w' ⟨rfl, r', v', s, c, w2, hWk, hP, ⟨hc, rfl⟩ | ⟨rfl, sg', sw', hG⟩⟩
      · exact ⟨rfl, done w' r' v' hWk (.inr (.inr ⟨q, r, v, r', v', hq2, hv2, rfl, rfl, hWk.e1, hWk.e3, .inr (.inr ⟨h, s, c, hP, .inl ⟨hc, rfl⟩⟩)⟩))⟩
      · obtain ⟨h1, h2, h3, h4⟩ := turn w2 r' v' hWk
        have y1 := hWk.fr.size
        have y0 := hF1.size
        have glt : ∀ b, sg.ownBlock = some b → b < W.heap.size := fun b hb => (World.ownsRow.lt hI.og b hb).2
        have xlt : ∀ b, sw.ownBlock = some b → b < W.heap.size := fun b hb => (World.ownsRow.lt hI.ox b hb).2
        have hg2 : ownS own W1.heap.size q gw = (0, 0) := by unfold ownS; rw [if_pos hW1.lt]; exact hg
        obtain ⟨z1, z2⟩ := seal_sizes hT.rel.tok hP
        obtain ⟨own', h5, h6, h7⟩ := h1.gave (Nat.le_trans hB1 y1) hg2 hG.fr hG.og hG.ox hG.b1 hG.b2 hG.ne z1 z2
        have hnl : ∀ b, W.heap.size ≤ b ∨ sr.ownBlock = some b → b ∉ (gw :: (sg.ownBlock.toList ++ sw.ownBlock.toList)) := by
          intro b hb hm
          simp only [List.mem_cons, List.mem_append, Option.mem_toList] at hm
          rcases hb with hb | hb
          · rcases hm with rfl | hm | hm
            · omega
            · have := glt b (by simpa using hm)
              omega
            · have := xlt b (by simpa using hm)
              omega
          · have h2' := hI.sl b hb
            rcases hm with rfl | hm | hm
            · rw [hg] at h2'; simp at h2'
            · rw [hI.gl b (by simpa using hm)] at h2'; simp at h2'
            · rw [hI.xl b (by simpa using hm)] at h2'; simp at h2'
        have hown : ∀ b, b < W1.heap.size → own' b = own b := fun b hb => by
          rw [h6 b (by omega)]
          unfold ownS
          rw [if_pos hb]
        have hFT : FrT own [0, 3, 4, 5, 6, 7, 8, 9, 10] W1 w' := by
          refine ⟨h7.os.trans h2.os, h7.tape.trans h2.tape, h7.output.trans h2.output, Nat.le_trans h2.size h7.size, fun b hb hn => ?_⟩
          have e : ownS own W1.heap.size q b = own b := by unfold ownS; rw [if_pos hb]
          rw [h7.block b (by omega) (by rw [e]; intro hm; apply hn; simp only [List.mem_cons, List.not_mem_nil, or_false] at hm ⊢; omega), h2.block b hb (by intro hm; apply hn; simp only [List.mem_cons, List.not_mem_nil, or_false] at hm ⊢; omega)]
        obtain ⟨a, b⟩ := IVt.of (L := fun vs' rs' gi' => ∃ vs rs gi, L vs rs gi ∧ Worked o vs rs gi vs' rs' gi') hB1 hg hW1.lt hI.V.lo hown hFT (by simp) hG.wl h5 (by rw [List.length_set]; omega) (by rw [List.length_set]; omega) (by rw [List.length_append]; simp; omega) ⟨vs, rs, gi, hL, .inr (.inr ⟨q, r, v, r', v', hq2, hv2, rfl, rfl, hWk.e1, hWk.e3, .inr (.inr ⟨h, s, 0, hP, .inr ⟨rfl, rfl⟩⟩)⟩)⟩
        exact ⟨rfl, ⟨hG.wl.cells.2.1, keepRow hG.fr h4.op (hnl _ (.inl (Nat.le_refl _))), ownsFr h4.ow hG.fr (fun b hb => hnl b (.inr hb))⟩, a, bel1.trans b⟩
    · refine Calls.mono (lwork_open W1 B gw r v o h (Nat.le_trans hO.s hmx) (Nat.le_trans hO.t hmx) hT1 hS1 hti) ?_
      rintro e w' ⟨rfl, hF⟩
      exact ⟨rfl, idle w' (.inl h) hF⟩
    · refine Calls.mono (lwork_again W1 B gw r v o sv sr sg sw gi wi h hO.a hO.s hW1 hI1.og hI1.ox hI.le (by omega) hI.gz hI.wz hT1 hS1 hti) ?_
      rintro e w' ⟨rfl, hF⟩
      exact ⟨rfl, idle w' (.inr (.inl h)) hF⟩
    · refine Calls.mono (lwork_retire W1 B gw r v o h hT1 hS1 hti cz hB1 (by omega)) ?_
      rintro e w' ⟨rfl, r', v', c, hWk, hP⟩
      exact ⟨rfl, done w' r' v' hWk (.inr (.inr ⟨q, r, v, r', v', hq2, hv2, rfl, rfl, hWk.e1, hWk.e3, .inr (.inl ⟨h, rfl, c, hP⟩)⟩))⟩
    · refine Calls.mono (lwork_status W1 B gw r v o h hT1) ?_
      rintro e w' ⟨rfl, hF⟩
      exact ⟨rfl, idle w' (.inr (.inr h)) hF⟩
end Go.Proofs.YtgalgjmhdbncbaaGreat
namespace Go.Proofs.YtgalgjmhdbncbaaGreat
open Go.RowKit
attribute [local go_sem ↓] Go.wp_at_zero Go.wp_at_succ

def Bg1 (vs : List Vt) (rs : List Rg) (gi : List ByteArray) : Prop := ∃ v, vs = [v] ∧ rs = [] ∧ gi = [] ∧ v.S.left = 0 ∧ ∀ j, j ≠ 7 → v.S.cell j = ⟨#[]⟩
def Bg2 (vs : List Vt) (rs : List Rg) (gi : List ByteArray) : Prop := ∃ v r, vs = [v] ∧ rs = [r] ∧ gi = [] ∧ r.v = 0 ∧ v.S.left = 0 ∧ v.S.tab = some r.gx ∧ ∀ j, j < 8 → (r.H j).c.st = 0 ∧ (r.H j).ctr = 0
def bgC : Cl := ⟨1, 1, 3, ⟨#[102, 111, 117, 114]⟩, 9, 2, 9, 0, ⟨#[48, 49, 50, 51, 52, 53, 54, 55, 56, 57, 97, 98, 99, 100, 101, 102]⟩⟩
def Bg3 (vs : List Vt) (rs : List Rg) (gi : List ByteArray) : Prop := ∃ v r i, vs = [v] ∧ rs = [r] ∧ gi = [] ∧ r.v = 0 ∧ v.S.left = 0 ∧ v.S.tab = some r.gx ∧ i < 8 ∧ r.H i = ⟨bgC, 0⟩ ∧ ∀ j, j < 8 → j ≠ i → (r.H j).c.st = 0
def Bg4 (rs : List Rg) (gi : List ByteArray) : Prop := rs.length = 1 ∧ gi.length = 1
theorem one_at {α : Type} {x y : α} {i : Nat} (h : [x][i]? = some y) : i = 0 ∧ y = x := by
  have hi := getE_lt h
  simp only [List.length_cons, List.length_nil] at hi
  have : i = 0 := by omega
  subst this
  simp only [List.getElem?_cons_zero, Option.some.injEq] at h
  exact ⟨rfl, h.symm⟩
theorem bg_call (o : OpA) (ha : o.a = 7) (hk : o.kind = 11 ∨ o.kind = 12) {vs vs' : List Vt} {rs : List Rg} {gi : List ByteArray} (h : Bg1 vs rs gi) (hc : (vs = [] ∧ vs' = vs) ∨ Called o vs vs') : Bg1 vs' rs gi := by
  rcases hc with ⟨_, rfl⟩ | ⟨r, v', R', hr, rfl⟩
  · exact h
  · obtain ⟨v, rfl, h1, h2, h3, h4⟩ := h
    obtain ⟨rfl, rfl⟩ := one_at hr
    refine ⟨_, rfl, h1, h2, ?_, ?_⟩
    · show (storedM o v'.S).left = 0
      unfold storedM wroteM
      split
      · split
        · exact h3
        · split
          · exact h3
          · show v'.S.left - 1 = 0
            omega
      · rw [if_neg (by omega)]; exact h3
    · intro j hj
      show (storedM o v'.S).cell j = _
      unfold storedM wroteM
      split
      · split
        · exact h4 j hj
        · split
          · exact h4 j hj
          · dsimp only
            split
            · exact h4 j hj
            · dsimp only
              rw [ha, if_neg (by show ¬ j = 7; exact hj)]
              exact h4 j hj
      · rw [if_neg (by omega)]; exact h4 j hj
def Bg1' (vs : List Vt) (rs : List Rg) (gi : List ByteArray) : Prop := ∃ v, vs = [v] ∧ rs = [] ∧ gi = [] ∧ v.S.left = 0 ∧ ∀ j, v.S.cell j = ⟨#[]⟩
theorem bg_last (o : OpA) (ha : o.a = 7) (hk : o.kind = 12) (hs : o.s = ⟨#[]⟩) {vs vs' : List Vt} {rs : List Rg} {gi : List ByteArray} (h : Bg1 vs rs gi) (hc : Called o vs vs') : Bg1' vs' rs gi := by
  have h5 := bg_call o ha (.inr hk) h (.inr hc)
  obtain ⟨r, v', R', hr, rfl⟩ := hc
  obtain ⟨v, rfl, h1, h2, h3, h4⟩ := h
  obtain ⟨rfl, rfl⟩ := one_at hr
  obtain ⟨v2, e, _, _, h6, h7⟩ := h5
  simp only [List.set_cons_zero, List.cons.injEq, and_true] at e
  refine ⟨v2, by rw [← e]; rfl, h1, h2, h6, fun j => ?_⟩
  by_cases hj : j = 7
  · rw [← e]
    show (storedM o v'.S).cell j = _
    unfold storedM wroteM
    rw [if_pos hk, ha, if_neg (by decide), if_neg (by rw [hs]; decide)]
    dsimp only
    rw [if_neg (by omega), hj]
    show (if 7 = Int.toNat 7 then o.s else _) = _
    rw [if_pos (by decide), hs]
  · exact h7 j hj
theorem bg_lastc (o : OpA) (ha : o.a = 7) (hk : o.kind = 12) (hs : o.s = ⟨#[]⟩) {vs vs' : List Vt} {rs : List Rg} {gi : List ByteArray} (h : Bg1 vs rs gi) (hc : (vs = [] ∧ vs' = vs) ∨ Called o vs vs') : Bg1' vs' rs gi := by
  rcases hc with ⟨h0, _⟩ | hc
  · obtain ⟨v, hv, _⟩ := h
    rw [h0] at hv
    cases hv
  · exact bg_last o ha hk hs h hc
theorem bg_start (o : OpA) (ho : o.on = 0) {vs vs' : List Vt} {rs rs' : List Rg} {gi : List ByteArray} (h : Bg1' vs rs gi) (hc : Started o vs rs vs' rs') : Bg2 vs' rs' gi := by
  obtain ⟨v, rfl, rfl, h2, h3, h4⟩ := h
  have hz : ∀ j, ofC (v.S.cell j) = zCl := fun j => by unfold ofC; rw [h4 j]; rfl
  have hok : ∀ j, j < 8 → CellOk v.S j := fun j _ => ⟨.inl (by rw [h4 j]; rfl), fun h => absurd (by rw [hz j]; rfl) h⟩
  rcases hc with ⟨_, _, h⟩ | ⟨i, v1, v', add, hp, hv, rfl, rfl, e1, e2, ⟨_, hn⟩ | ⟨r, rfl, rv, rH, rt⟩⟩
  · rw [ho, pickN_zero] at h
    simp at h
  · obtain ⟨rfl, rfl⟩ := one_at hv
    exact absurd hok hn
  · obtain ⟨rfl, rfl⟩ := one_at hv
    refine ⟨v', r, rfl, rfl, h2, rv, by rw [e2]; exact h3, rt, fun j hj => ?_⟩
    rw [rH]
    unfold stH
    rw [if_pos hj, hz j]
    exact ⟨rfl, rfl⟩
theorem bg_create (o : OpA) (hk : o.kind = 21) (ha : o.a = 3) (hs : o.s = ⟨#[48, 49, 50, 51, 52, 53, 54, 55, 56, 57, 97, 98, 99, 100, 101, 102]⟩) (ht : o.t = ⟨#[102, 111, 117, 114]⟩) (hc1 : o.cs = 9) (hc2 : o.ca = 2) (hc3 : o.cm = 9) {vs vs' : List Vt} {rs rs' : List Rg} {gi gi' : List ByteArray} (h : Bg2 vs rs gi) (hc : Worked o vs rs gi vs' rs' gi') : Bg3 vs' rs' gi' := by
  obtain ⟨v, r, rfl, rfl, rfl, hrv, hl, ht2, hH⟩ := h
  have hno : ∀ j, j < 8 → ¬ hit r.H o.a j := fun j hj hh => hh.1 (hH j hj).1
  rcases hc with ⟨h, _⟩ | ⟨h, _⟩ | ⟨q, r1, v1, r', v', hr, hv, rfl, rfl, e1, e2, ⟨_, rfl, c, hP⟩ | ⟨h, _⟩ | ⟨h, _⟩⟩
  · simp at h
  · omega
  · obtain ⟨rfl, rfl⟩ := one_at hr
    obtain ⟨e3, rfl⟩ := one_at hv
    rw [e3]
    rcases hP with ⟨h, _⟩ | ⟨_, ⟨h, _⟩ | ⟨_, ⟨h, _⟩ | ⟨A, a1, a2, a3, ⟨⟨i, hi, hh⟩, _⟩ | ⟨_, ⟨hf, _⟩ | ⟨i, hi, h0, hm, ⟨h, _⟩ | ⟨_, _, eS, eH⟩⟩⟩⟩⟩⟩
    · exact absurd ht2 h
    · exfalso
      apply h
      rw [ha, ht, hc1, hc2, hc3]
      exact ⟨by omega, by omega, rfl, ⟨by omega, by omega⟩, ⟨by omega, by omega⟩, ⟨by omega, by omega⟩⟩
    · exfalso
      apply h
      rw [hs]
      unfold KeyLen
      decide
    · exact absurd hh (hno i hi)
    · exact absurd (hH 0 (by omega)).1 (hf 0 (by omega))
    · omega
    · have hA : A = 1 := by
        rw [hs] at a3
        have : (⟨#[48, 49, 50, 51, 52, 53, 54, 55, 56, 57, 97, 98, 99, 100, 101, 102]⟩ : ByteArray).size = 16 := rfl
        omega
      refine ⟨v', r', i, rfl, rfl, rfl, by rw [e2]; exact hrv, ?_, by rw [eS, wrote_tab, e1]; exact ht2, hi, ?_, ?_⟩
      · rw [eS]
        unfold wroteM
        split
        · exact hl
        · split
          · exact hl
          · show v1.S.left - 1 = 0
            omega
      · rw [eH]
        unfold upd
        rw [if_pos rfl, (hH i hi).2, hA, ha, hs, ht, hc1, hc2, hc3]
        rfl
      · intro j hj hn
        rw [eH]
        unfold upd
        rw [if_neg hn]
        exact (hH j hj).1
  · omega
  · omega
theorem bg_seal (o : OpA) (hk : o.kind = 22) (ha : o.a = 3) (hs : o.s.size ≤ 180) (ht : o.t.size ≤ 9) {vs vs' : List Vt} {rs rs' : List Rg} {gi gi' : List ByteArray} (h : Bg3 vs rs gi) (hc : Worked o vs rs gi vs' rs' gi') : Bg4 rs' gi' := by
  obtain ⟨v, r, i, rfl, rfl, rfl, hrv, hl, ht2, hi, hHi, hH⟩ := h
  have hhit : hit r.H o.a i := by
    refine ⟨?_, ?_⟩
    · rw [hHi]; show (1 : Nat) ≠ 0; omega
    · rw [hHi, ha]; rfl
  have hone : ∀ j, j < 8 → hit r.H o.a j → j = i := fun j hj hh => Classical.byContradiction fun e => hh.1 (hH j hj e)
  rcases hc with ⟨h, _⟩ | ⟨h, _⟩ | ⟨q, r1, v1, r', v', hr, hv, rfl, rfl, e1, e2, ⟨h, _⟩ | ⟨h, _⟩ | ⟨_, s, c, hP, hg⟩⟩
  · simp at h
  · omega
  · omega
  · omega
  · obtain ⟨rfl, rfl⟩ := one_at hr
    obtain ⟨e3, rfl⟩ := one_at hv
    have hc0 : c = 0 := by
      rcases hP with ⟨h, _⟩ | ⟨_, j, d, hL, hP⟩
      · exact absurd ht2 h
      · have hj : j = i ∧ d = 0 := by
          rcases hL with ⟨hj, hh, _, _, hd⟩ | ⟨_, ⟨k, hk8, hh, _, h2⟩, _⟩ | ⟨_, hn, _⟩
          · exact ⟨hone j hj hh, hd⟩
          · have := hone k hk8 hh
            subst this
            rw [hHi] at h2
            exact absurd (show (1 : Nat) = 2 from h2) (by omega)
          · exact absurd hhit (hn i hi)
        obtain ⟨rfl, rfl⟩ := hj
        rw [hHi] at hP
        rcases hP with ⟨h, _⟩ | ⟨_, ⟨h, _⟩ | ⟨_, ⟨h, _⟩ | ⟨_, ⟨_, _, h, _⟩ | ⟨_, ⟨h, _⟩ | ⟨_, _, h, _⟩⟩⟩⟩⟩
        · exact absurd rfl h
        · have e : (⟨bgC, 0⟩ : Hd).c.most = 9 := rfl
          omega
        · exact absurd (show (0 : Nat) = 9 from h) (by omega)
        · exact h
        · omega
        · exact h
    rcases hg with ⟨h, _⟩ | ⟨_, rfl⟩
    · exact absurd hc0 h
    · exact ⟨rfl, rfl⟩
theorem bg_again (o : OpA) (hk : o.kind = 24) {vs vs' : List Vt} {rs rs' : List Rg} {gi gi' : List ByteArray} (h : Bg4 rs gi) (hc : Worked o vs rs gi vs' rs' gi') : Bg4 rs' gi' := by
  rcases hc with ⟨_, _, rfl, rfl⟩ | ⟨_, _, rfl, rfl⟩ | ⟨q, r1, v1, r', v', _, _, _, _, _, _, ⟨h, _⟩ | ⟨h, _⟩ | ⟨h, _⟩⟩
  · exact h
  · exact h
  · omega
  · omega
  · omega
theorem IVt.lens {B gw k : Nat} {W : World} (h : IVt B gw k (fun _ rs gi => Bg4 rs gi) W) : ∃ g cap g' cap', W.cell? ⟨gw, 1, none⟩ = some (.slice (some ⟨g, 0, none⟩) 1 cap) ∧ W.cell? ⟨gw, 2, none⟩ = some (.slice (some ⟨g', 0, none⟩) 1 cap') := by
  obtain ⟨hB, own, sv, sr, sg, sw, vs, rs, gi, wi, a, b, c, d, e, f, g1, g2⟩ := h
  have h1 := c.ow
  have h2 := c.og
  rw [g1] at h1
  rw [g2] at h2
  obtain ⟨g, cap, e1, _, _⟩ := World.ownsRow.form h1 (by omega)
  obtain ⟨g', cap', e2, _, _⟩ := World.ownsRow.form h2 (by omega)
  exact ⟨g, cap, g', cap', by rw [a.cells.2.1, e1], by rw [a.cells.2.2.1, e2]⟩
theorem IVt.onev {B gw k : Nat} {W : World} (h : IVt B gw k Bg1' W) : ∃ g cap, W.cell? ⟨gw, 0, none⟩ = some (.slice (some ⟨g, 0, none⟩) 1 cap) := by
  obtain ⟨hB, own, sv, sr, sg, sw, vs, rs, gi, wi, a, b, c, d, e, f, v, hv, _⟩ := h
  have h1 := c.V.ow
  rw [hv] at h1
  obtain ⟨g, cap, e1, _, _⟩ := World.ownsRow.form h1 (by simp)
  exact ⟨g, cap, by rw [a.cells.1, e1]; rfl⟩
theorem wf_lit (o : OpA) (h1 : o.on = 0) (h2 : 0 ≤ o.a ∧ o.a ≤ 10) (h3 : 0 ≤ o.cs ∧ o.cs ≤ 10) (h4 : 0 ≤ o.ca ∧ o.ca ≤ 10) (h5 : 0 ≤ o.cm ∧ o.cm ≤ 10) (h6 : o.s.size ≤ 100 ∧ o.t.size ≤ 100 ∧ o.u.size ≤ 100 ∧ o.v.size ≤ 100 ∧ o.rn.size ≤ 100 ∧ o.rb.size ≤ 100 ∧ o.rt.size ≤ 100) : OpWf o := by
  obtain ⟨a, b, c, d, e, f, g⟩ := h6
  exact ⟨by omega, by omega, by omega, by omega, by omega, by omega, by omega, by omega, by omega, by omega, by omega, by omega⟩
set_option maxRecDepth 100000 in
set_option maxHeartbeats 8000000 in
theorem begins_tables (W : World) : Calls Tryz.prog 13 #[.int .i64 10, .int .i64 26] W fun e w' => e = .returned (.bool true) ∧ Below W.heap.size W w' := by
  have n0 := IVt.new W W.heap.size (Nat.le_refl _)
  have B0 : Below W.heap.size W (W.alloc (.cells #[nilS, nilS, nilS, nilS] 48)) := (Below.refl _ _).alloc (Nat.le_refl _) _
  have s1 := fun L w h => step_t_new W.heap.size W.heap.size 0 L ⟨10, 0, 0, false, ⟨#[]⟩, ⟨#[]⟩, ⟨#[]⟩, ⟨#[]⟩, 0, 0, 0, 0, 0, ⟨#[]⟩, ⟨#[]⟩, ⟨#[]⟩⟩ rfl (by omega) w h
  have s2 := fun L w h => step_t_call W.heap.size W.heap.size 1 L ⟨12, 0, 7, false, ⟨#[110, 111, 32, 99, 101, 108, 108]⟩, ⟨#[]⟩, ⟨#[]⟩, ⟨#[]⟩, 0, 0, 0, 0, 0, ⟨#[]⟩, ⟨#[]⟩, ⟨#[]⟩⟩ (by decide) (by unfold OpOk; decide) (by omega) w h
  have s3 := fun L w h => step_t_call W.heap.size W.heap.size 2 L ⟨11, 0, 7, false, ⟨#[]⟩, ⟨#[]⟩, ⟨#[]⟩, ⟨#[]⟩, 0, 0, 0, 0, 0, ⟨#[]⟩, ⟨#[]⟩, ⟨#[]⟩⟩ (by decide) (by unfold OpOk; decide) (by omega) w h
  have s4 := fun L w h => step_t_call W.heap.size W.heap.size 3 L ⟨12, 0, 7, false, ⟨#[]⟩, ⟨#[]⟩, ⟨#[]⟩, ⟨#[]⟩, 0, 0, 0, 0, 0, ⟨#[]⟩, ⟨#[]⟩, ⟨#[]⟩⟩ (by decide) (by unfold OpOk; decide) (by omega) w h
  have s5 := fun L w h => step_t_start W.heap.size W.heap.size 4 L ⟨20, 0, 0, false, ⟨#[]⟩, ⟨#[]⟩, ⟨#[]⟩, ⟨#[]⟩, 0, 0, 0, 0, 0, ⟨#[]⟩, ⟨#[]⟩, ⟨#[]⟩⟩ rfl (by unfold OpOk; decide) (by omega) w h
  have s6 := fun L w h => step_t_work W.heap.size W.heap.size 5 L ⟨21, 0, 3, false, ⟨#[48, 49, 50, 51, 52, 53, 54, 55, 56, 57, 97, 98, 99, 100, 101, 102]⟩, ⟨#[102, 111, 117, 114]⟩, ⟨#[]⟩, ⟨#[]⟩, 9, 2, 9, 0, 0, ⟨#[]⟩, ⟨#[]⟩, ⟨#[]⟩⟩ (by decide) (wf_lit _ rfl (by decide) (by decide) (by decide) (by decide) (by decide)) (by omega) w h
  have s7 := fun L w h => step_t_work W.heap.size W.heap.size 6 L ⟨22, 0, 3, false, ⟨#[119, 105, 116, 104]⟩, ⟨#[116, 104, 105, 115]⟩, ⟨#[]⟩, ⟨#[]⟩, 0, 0, 0, 0, 0, ⟨#[]⟩, ⟨#[]⟩, ⟨#[]⟩⟩ (by decide) (wf_lit _ rfl (by decide) (by decide) (by decide) (by decide) (by decide)) (by omega) w h
  have s8 := fun L w h => step_t_work W.heap.size W.heap.size 7 L ⟨24, 0, 0, false, ⟨#[]⟩, ⟨#[]⟩, ⟨#[]⟩, ⟨#[]⟩, 0, 0, 0, 0, 0, ⟨#[]⟩, ⟨#[]⟩, ⟨#[]⟩⟩ (by decide) (wf_lit _ rfl (by decide) (by decide) (by decide) (by decide) (by decide)) (by omega) w h
  unfold ptr opC at s1 s2 s3 s4 s5 s6 s7 s8
  unfold nilS at n0 B0
  have N0 : Hid _ := n0
  have H1 : Hid _ := s1
  have H2 : Hid _ := s2
  have H3 : Hid _ := s3
  have H4 : Hid _ := s4
  have H5 : Hid _ := s5
  have H6 : Hid _ := s6
  have H7 : Hid _ := s7
  have H8 : Hid _ := s8
  have HB0 : Hid _ := B0
  clear n0 s1 s2 s3 s4 s5 s6 s7 s8 B0
  go_enter Tryz.func13, Tryz.ntmps13
  go_wp2_with fail
  refine (H1.out _ _ N0.out).mono ?_
  rintro e w1 ⟨rfl, i1, b1⟩
  have I1 : Hid _ := i1.mono (L' := Bg1) (by rintro vs' rs gi ⟨vs, gx, gr, gc, ⟨rfl, rfl, rfl⟩, rfl⟩; exact ⟨_, rfl, rfl, rfl, rfl, fun _ _ => rfl⟩)
  have B1 : Hid _ := HB0.out.trans b1
  clear i1 b1 N0 H1 HB0
  go_wp2_with fail
  refine (H2.out _ _ I1.out).mono ?_
  rintro e w2 ⟨rfl, i2, b2⟩
  have I2 : Hid _ := i2.mono (L' := Bg1) (by rintro vs' rs gi ⟨vs, h, hc⟩; exact bg_call _ rfl (.inr rfl) h hc)
  have B2 : Hid _ := B1.out.trans b2
  clear i2 b2 I1 B1 H2
  go_wp2_with fail
  refine (H3.out _ _ I2.out).mono ?_
  rintro e w3 ⟨rfl, i3, b3⟩
  have I3 : Hid _ := i3.mono (L' := Bg1) (by rintro vs' rs gi ⟨vs, h, hc⟩; exact bg_call _ rfl (.inl rfl) h hc)
  have B3 : Hid _ := B2.out.trans b3
  clear i3 b3 I2 B2 H3
  go_wp2_with fail
  refine (H4.out _ _ I3.out).mono ?_
  rintro e w4 ⟨rfl, i4, b4⟩
  have i4' := i4.mono (L' := Bg1') (by
    rintro vs' rs gi ⟨vs, h, hc⟩
    exact bg_lastc _ rfl rfl rfl h hc)
  have I4 : Hid _ := i4'
  have B4 : Hid _ := B3.out.trans b4
  obtain ⟨g0, cap0, hc0⟩ := i4'.onev
  clear i4 i4' b4 I3 B3 H4
  go_wp2_with fail
  refine (H5.out _ _ I4.out).mono ?_
  rintro e w5 ⟨rfl, i5, b5⟩
  have I5 : Hid _ := i5.mono (L' := Bg2) (by rintro vs' rs' gi ⟨vs, rs, h, hc⟩; exact bg_start _ rfl h hc)
  have B5 : Hid _ := B4.out.trans b5
  clear i5 b5 I4 B4 H5 hc0
  go_wp2_with fail
  refine (H6.out _ _ I5.out).mono ?_
  rintro e w6 ⟨rfl, i6, b6⟩
  have I6 : Hid _ := i6.mono (L' := Bg3) (by rintro vs' rs' gi' ⟨vs, rs, gi, h, hc⟩; exact bg_create _ rfl rfl rfl rfl rfl rfl rfl h hc)
  have B6 : Hid _ := B5.out.trans b6
  clear i6 b6 I5 B5 H6
  go_wp2_with fail
  refine (H7.out _ _ I6.out).mono ?_
  rintro e w7 ⟨rfl, i7, b7⟩
  have I7 : Hid _ := i7.mono (L' := fun _ rs gi => Bg4 rs gi) (by rintro vs' rs' gi' ⟨vs, rs, gi, h, hc⟩; exact bg_seal _ rfl rfl (by decide) (by decide) h hc)
  have B7 : Hid _ := B6.out.trans b7
  clear i7 b7 I6 B6 H7
  go_wp2_with fail
  refine (H8.out _ _ I7.out).mono ?_
  rintro e w8 ⟨rfl, i8, b8⟩
  have I8 := i8.mono (L' := fun _ rs gi => Bg4 rs gi) (by rintro vs' rs' gi' ⟨vs, rs, gi, h, hc⟩; exact bg_again _ rfl h hc)
  have B8 : Hid _ := B7.out.trans b8
  obtain ⟨g, cap, g', cap', hc1, hc2⟩ := I8.lens
  clear i8 b8 I7 B7 H8 I8
  go_wp2
  go_ret
  exact ⟨rfl, B8.out⟩
set_option maxRecDepth 100000 in
set_option maxHeartbeats 4000000 in
theorem tables_law (a : Addr) (len cap : Nat) (os : Nat → OpA) (w : World) (hab : 0 < len → a.block < w.heap.size) (hlen : len ≤ 1000000000000) (hos : ∀ i, i < len → OpAt w (a.add (i * 16)) (os i)) (hok : ∀ i, i < len → OpWf (os i)) :
    Calls Tryz.prog 4 #[.slice (some a) len cap] w fun e w' => e = .returned (.bool true) ∧ Below w.heap.size w w' := by
  have h := plays_any 10 26 a len cap os (fun B gw k W => IVt B gw k (fun _ _ _ => True) W) w hab (by omega) hos begins_tables
    (fun W hW => (IVt.new W w.heap.size hW).mono (fun _ _ _ _ => trivial)) (fun B gw k W o h => h.fr ((Fr.refl _ _).alloc o))
    (fun B gw k W h => h.next)
    (fun i B gw k W hi h1 h2 hB hk hI => by
      have hO : OpOk (os i) := ⟨(hok i hi).on, (hok i hi).a.2⟩
      rcases (by omega : (os i).kind = 10 ∨ (10 < (os i).kind ∧ (os i).kind < 20) ∨ (os i).kind = 20 ∨ (20 < (os i).kind ∧ (os i).kind ≤ 26)) with h | h | h | h
      · refine Calls.mono (step_t_new B gw k _ (os i) h (by omega) W hI) ?_
        rintro e w' ⟨rfl, h3, h4⟩
        exact ⟨rfl, h3.mono (fun _ _ _ _ => trivial), h4⟩
      · refine Calls.mono (step_t_call B gw k _ (os i) h hO (by omega) W hI) ?_
        rintro e w' ⟨rfl, h3, h4⟩
        exact ⟨rfl, h3.mono (fun _ _ _ _ => trivial), h4⟩
      · refine Calls.mono (step_t_start B gw k _ (os i) h hO (by omega) W hI) ?_
        rintro e w' ⟨rfl, h3, h4⟩
        exact ⟨rfl, h3.mono (fun _ _ _ _ => trivial), h4⟩
      · refine Calls.mono (step_t_work B gw k _ (os i) h (hok i hi) (by omega) W hI) ?_
        rintro e w' ⟨rfl, h3, h4⟩
        exact ⟨rfl, h3.mono (fun _ _ _ _ => trivial), h4⟩)
  have H : Hid _ := h
  clear h hos hok
  go_enter Tryz.func4, Tryz.ntmps4
  go_wp2_with fail
  refine Calls.mono H.out ?_
  rintro e w1 ⟨rfl, b1⟩
  go_wp2
  go_ret
  exact ⟨rfl, b1⟩
set_option maxRecDepth 100000 in
set_option maxHeartbeats 4000000 in
theorem tables_nil (w : World) : Calls Tryz.prog 4 #[.slice none 0 0] w fun e w' => e = .returned (.bool true) ∧ Below w.heap.size w w' := by
  have h := plays_nil 10 26 w begins_tables
  have H : Hid _ := h
  clear h
  go_enter Tryz.func4, Tryz.ntmps4
  go_wp2_with fail
  refine Calls.mono H.out ?_
  rintro e w1 ⟨rfl, b1⟩
  go_wp2
  go_ret
  exact ⟨rfl, b1⟩
end Go.Proofs.YtgalgjmhdbncbaaGreat
