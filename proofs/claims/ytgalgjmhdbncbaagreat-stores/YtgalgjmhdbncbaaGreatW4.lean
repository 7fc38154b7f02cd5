import Derived.Test.YtgalgjmhdbncbaaGreatW3
namespace Go.Proofs.YtgalgjmhdbncbaaGreat
open Go.RowKit
attribute [local go_sem ↓] Go.wp_at_zero Go.wp_at_succ

/-! ### whose a block is: 0 the world's, 1 its stores' list, 2 its tables', 3 the records', 4 what went with them, 5 a store of the program, 6 one of the reference, 7 its cells, 8 a table of the program, 9 one of the reference, 10 its handles, 99 nobody's -/
structure FrT (own : Nat → Nat × Nat) (T : List Nat) (w w' : World) : Prop where
  os : w'.os = w.os
  tape : w'.tape = w.tape
  output : w'.output = w.output
  size : w.heap.size ≤ w'.heap.size
  block : ∀ k, k < w.heap.size → (own k).1 ∉ T → w'.heap[k]? = w.heap[k]?
theorem FrT.of {own : Nat → Nat × Nat} {L T : List Nat} {w w' : World} (h : Fr L w w') (hL : ∀ k, k ∈ L → (own k).1 ∈ T) : FrT own T w w' :=
  ⟨h.os, h.tape, h.output, h.size, fun k hk hn => h.block k hk (fun hm => hn (hL k hm))⟩
theorem FrT.row {own : Nat → Nat × Nat} {T : List Nat} {w w' : World} {g : Nat} {cs : Array Value} {t : TypeId} (hf : FrT own T w w') (h : w.heap[g]? = some (.cells cs t (0, 0))) (hg : (own g).1 ∉ T) : w'.heap[g]? = some (.cells cs t (0, 0)) := by
  rw [hf.block g _ hg]; exact h
  rcases Nat.lt_or_ge g w.heap.size with hlt | hge
  · exact hlt
  · rw [Array.getElem?_eq_none hge] at h; cases h
theorem FrT.below {own : Nat → Nat × Nat} {T : List Nat} {w w' : World} {B : Nat} (h : FrT own T w w') (hB : B ≤ w.heap.size) (ho : ∀ b, b < B → (own b).1 ∉ T) : Below B w w' :=
  ⟨h.os, h.tape, h.output, h.size, fun k hk => h.block k (by omega) (ho k hk)⟩
theorem FrT.owns {own : Nat → Nat × Nat} {T : List Nat} {w w' : World} {B e size n : Nat} {v : Value} {xs : List Value} (hf : FrT own T w w') (h : w.ownsRow B e size v n xs) (hb : ∀ b, v.ownBlock = some b → (own b).1 ∉ T) : w'.ownsRow B e size v n xs := by
  refine ⟨h.1, ?_⟩
  rcases h.2 with hn | ⟨g, cap, cur, rfl, h1, h2, h3⟩
  · exact .inl hn
  · exact .inr ⟨g, cap, cur, rfl, h1, hf.row h2 (hb g rfl), h3⟩
theorem FrT.sub {own : Nat → Nat × Nat} {T T' : List Nat} {w w' : World} (h : FrT own T w w') (hT : ∀ k, k ∈ T → k ∈ T') : FrT own T' w w' := ⟨h.os, h.tape, h.output, h.size, fun k hk hn => h.block k hk (fun hm => hn (hT _ hm))⟩
theorem StoB.frT {own : Nat → Nat × Nat} {T : List Nat} {w w' : World} {gx gr gc : Nat} {S : Sto} {R : RSt} (hf : FrT own T w w') (h : StoB w gx gr gc S R) (h1 : (own gx).1 ∉ T) (h2 : (own gr).1 ∉ T) (h3 : (own gc).1 ∉ T) : StoB w' gx gr gc S R :=
  ⟨hf.row h.p h1, ⟨hf.row h.r.r h2, hf.row h.r.c h3, h.r.left⟩, h.l⟩
theorem vtL_even (vs : List Vt) : ∀ r, (vtL vs)[r * 2]? = (vs[r]?).map fun v => ptr v.gx := by
  induction vs with
  | nil => intro r; simp [vtL]
  | cons a l ih =>
    intro r
    cases r with
    | zero => simp [vtL]
    | succ r => rw [show (r + 1) * 2 = r * 2 + 1 + 1 by omega]; simpa [vtL] using ih r
theorem vtL_odd (vs : List Vt) : ∀ r, (vtL vs)[r * 2 + 1]? = (vs[r]?).map fun v => ptr v.gr := by
  induction vs with
  | nil => intro r; simp [vtL]
  | cons a l ih =>
    intro r
    cases r with
    | zero => simp [vtL]
    | succ r => rw [show (r + 1) * 2 + 1 = r * 2 + 1 + 1 + 1 by omega]; simpa [vtL] using ih r
theorem vtL_snoc (vs : List Vt) (v : Vt) : vtL (vs ++ [v]) = vtL vs ++ [ptr v.gx, ptr v.gr] := by simp [vtL]
theorem vtL_set (vs : List Vt) (i : Nat) (v v' : Vt) (h : vs[i]? = some v) (h1 : v'.gx = v.gx) (h2 : v'.gr = v.gr) : vtL (vs.set i v') = vtL vs := by
  induction vs generalizing i with
  | nil => simp at h
  | cons a l ih =>
    cases i with
    | zero => simp at h; subst h; simp [vtL, h1, h2]
    | succ i => simp at h; have := ih i h; simp [vtL] at this ⊢; exact this
structure InvV (w : World) (B : Nat) (own : Nat → Nat × Nat) (sv : Value) (vs : List Vt) (k : Nat) : Prop where
  ow : w.ownsRow B 77 2 sv vs.length (vtL vs)
  sl : ∀ b, sv.ownBlock = some b → own b = (1, 0)
  st : ∀ i v, vs[i]? = some v → StoB w v.gx v.gr v.gc v.S v.R ∧ own v.gx = (5, i) ∧ own v.gr = (6, i) ∧ own v.gc = (7, i) ∧ v.R.writes ≤ k
  lo : ∀ b, b < B → own b = (99, 0)
theorem InvV.frT {w w' : World} {B k : Nat} {own : Nat → Nat × Nat} {sv : Value} {vs : List Vt} {T : List Nat} (h : InvV w B own sv vs k) (hf : FrT own T w w') (h1 : 1 ∉ T) (h5 : 5 ∉ T) (h6 : 6 ∉ T) (h7 : 7 ∉ T) : InvV w' B own sv vs k :=
  ⟨hf.owns h.ow (fun b hb => by rw [h.sl b hb]; exact h1), h.sl, fun i v hi => by
    obtain ⟨a, b, c, d, e⟩ := h.st i v hi
    exact ⟨StoB.frT hf a (by rw [b]; exact h5) (by rw [c]; exact h6) (by rw [d]; exact h7), b, c, d, e⟩, h.lo⟩
/-- nothing of the stores turned but what a call of a store turns -/
def VExt (vs vs' : List Vt) : Prop := ∀ (i : Nat) (v : Vt), vs[i]? = some v → ∃ v' : Vt, vs'[i]? = some v' ∧ v'.gx = v.gx ∧ v'.gr = v.gr ∧ v'.gc = v.gc ∧ v'.S.tab = v.S.tab ∧ v'.R.user = v.R.user ∧ v'.R.tables = v.R.tables
theorem VExt.refl (vs : List Vt) : VExt vs vs := fun _ v h => ⟨v, h, rfl, rfl, rfl, rfl, rfl, rfl⟩
def VStep (w w' : World) (B gw : Nat) (own : Nat → Nat × Nat) (sr sg sw : Value) (vs : List Vt) (k : Nat) (D : List Vt → Prop) : Prop :=
  ∃ own' sv' vs', D vs' ∧ Wld w' gw sv' sr sg sw ∧ InvV w' B own' sv' vs' (k + 1) ∧ vs'.length ≤ vs.length + 1 ∧ VExt vs vs' ∧ (∀ b, b < w.heap.size → own' b = own b) ∧ FrT own [0, 1, 5, 6, 7] w w'
def Called (o : OpA) (vs vs' : List Vt) : Prop := ∃ (r : Nat) (v : Vt) (R' : RSt), vs[r]? = some v ∧ vs' = vs.set r ⟨v.gx, v.gr, v.gc, storedM o v.S, R'⟩
theorem InvV.lt {w : World} {B k : Nat} {own : Nat → Nat × Nat} {sv : Value} {vs : List Vt} (h : InvV w B own sv vs k) : ∀ b, sv.ownBlock = some b → b < w.heap.size := fun b hb => (World.ownsRow.lt h.ow b hb).2

theorem stored_step (w w' : World) (B gw : Nat) (own : Nat → Nat × Nat) (sv sr sg sw : Value) (vs : List Vt) (k i : Nat) (v : Vt) (hw : Wld w gw sv sr sg sw) (hg : own gw = (0, 0)) (hI : InvV w B own sv vs k) (hi : vs[i]? = some v) (o : OpA) (hS : Stored w w' v.gx v.gr v.gc v.S v.R o) :
    VStep w w' B gw own sr sg sw vs k (Called o vs) ∧ Wld w' gw sv sr sg sw ∧ w'.ownsRow B 77 2 sv vs.length (vtL vs) := by
  obtain ⟨S', R', hB', e1, e2, e3, e4, hF, hSo⟩ := hS
  obtain ⟨a, b, c, d, e⟩ := hI.st i v hi
  have hT : FrT own [5, 6, 7] w w' := FrT.of hF (by intro k hk; simp at hk; rcases hk with rfl | rfl | rfl <;> simp [b, c, d])
  have W' : Wld w' gw sv sr sg sw := hT.row hw (by rw [hg]; simp)
  have O' := hT.owns hI.ow (fun b hb => by rw [hI.sl b hb]; simp)
  refine ⟨⟨own, sv, vs.set i ⟨v.gx, v.gr, v.gc, S', R'⟩, ⟨i, v, R', hi, by rw [hSo]⟩, W', ⟨?_, hI.sl, ?_, hI.lo⟩, by simp, ?_, fun _ _ => rfl, hT.sub (by simp)⟩, W', O'⟩
  · rw [List.length_set, vtL_set vs i v ⟨v.gx, v.gr, v.gc, S', R'⟩ hi rfl rfl]; exact O'
  · intro j u hj
    rw [List.getElem?_set] at hj
    by_cases hij : i = j
    · subst hij
      rw [if_pos rfl] at hj
      split at hj
      · simp only [Option.some.injEq] at hj
        subst hj
        exact ⟨hB', b, c, d, by dsimp only; omega⟩
      · cases hj
    · rw [if_neg hij] at hj
      obtain ⟨a2, b2, c2, d2, e5⟩ := hI.st j u hj
      refine ⟨StoB.fr a2 hF ?_ ?_ ?_, b2, c2, d2, by omega⟩
      · simp; refine ⟨?_, ?_, ?_⟩ <;> intro h <;> rw [h] at b2 <;> simp_all
      · simp; refine ⟨?_, ?_, ?_⟩ <;> intro h <;> rw [h] at c2 <;> simp_all
      · simp; refine ⟨?_, ?_, ?_⟩ <;> intro h <;> rw [h] at d2 <;> simp_all
  · intro j u hj
    by_cases hij : i = j
    · subst hij
      rw [hi] at hj
      simp only [Option.some.injEq] at hj
      subst hj
      refine ⟨⟨v.gx, v.gr, v.gc, S', R'⟩, ?_, rfl, rfl, rfl, e1, e2, e3⟩
      rw [List.getElem?_set, if_pos rfl, if_pos]
      rcases Nat.lt_or_ge i vs.length with hlt | hge
      · exact hlt
      · rw [List.getElem?_eq_none hge] at hi; cases hi
    · exact ⟨u, by rw [List.getElem?_set, if_neg hij]; exact hj, rfl, rfl, rfl, rfl, rfl, rfl⟩
/-- a step that calls a store -/
theorem step_call (w : World) (B gw : Nat) (own : Nat → Nat × Nat) (sv sr sg sw : Value) (vs : List Vt) (k : Nat) (o : OpA) (hw : Wld w gw sv sr sg sw) (hg : own gw = (0, 0)) (hI : InvV w B own sv vs k) (hk : 10 < o.kind ∧ o.kind < 20) (hon : -9223372036854775808 ≤ o.on ∧ o.on ≤ 9223372036854775807) (ha : o.a ≤ 9223372036854775807)
    (hn : vs.length ≤ 1000000000000) (hn0 : 0 < vs.length) (hkk : k < 4611686018427387904) :
    Calls Tryz.prog 14 #[ptr gw, .agg (opC o)] w fun e w' => e = .returned (.bool true) ∧ VStep w w' B gw own sr sg sw vs k (Called o vs) := by
  obtain ⟨gv, cap, hv, _, _⟩ := World.ownsRow.form hI.ow hn0
  refine step_stored B gw vs.length gv cap sv sr sg sw o (vtL vs) hv hk hon hn0 (by omega) w hw hI.ow _ ?_
  intro r hr W hSS hF
  have hv2 : vs[r]? = some vs[r] := List.getElem?_eq_getElem hr
  obtain ⟨a, b, c, d, e⟩ := hI.st r _ hv2
  refine ⟨vs[r].gx, vs[r].gr, by rw [vtL_even, hv2]; rfl, by rw [vtL_odd, hv2]; rfl, ?_⟩
  refine Calls.mono (stored_any _ _ vs[r].gc vs[r].S vs[r].R o ha (by omega) W (StoB.fr a hF (by simp) (by simp) (by simp))) ?_
  rintro e' w' ⟨rfl, hSt⟩
  have hlt := a.lt
  have hSt2 : Stored w w' vs[r].gx vs[r].gr vs[r].gc vs[r].S vs[r].R o := by
    obtain ⟨S', R', h1, h2, h3, h4, h5, h6, h7⟩ := hSt
    exact ⟨S', R', h1, h2, h3, h4, h5, (hF.sub (by simp)).trans h6, h7⟩
  obtain ⟨h1, h2, h3⟩ := stored_step w w' B gw own sv sr sg sw vs k r vs[r] hw hg hI hv2 o hSt2
  refine ⟨rfl, ⟨h2, ?_, h3⟩, h1⟩
  obtain ⟨S', R', _, _, _, _, _, h6, _⟩ := hSt
  exact keepRow h6 hSS.op (by simp; omega)
set_option maxRecDepth 100000 in
set_option maxHeartbeats 4000000 in
theorem step_new (w : World) (B gw : Nat) (own : Nat → Nat × Nat) (sv sr sg sw : Value) (vs : List Vt) (k : Nat) (o : OpA) (hw : Wld w gw sv sr sg sw) (hg : own gw = (0, 0)) (hI : InvV w B own sv vs k) (hlo : B ≤ w.heap.size) (hk : o.kind = 10) (hn : vs.length ≤ 1000000000000) :
    Calls Tryz.prog 14 #[ptr gw, .agg (opC o)] w fun e w' => e = .returned (.bool true) ∧ VStep w w' B gw own sr sg sw vs k (fun vs' => ∃ gx gr gc, vs' = vs ++ [⟨gx, gr, gc, newSto, newR⟩]) := by
  have hlt := hw.lt
  have hne : ∀ b, sv.ownBlock = some b → b ≠ gw := fun b hb e => by have := hI.sl b hb; rw [e, hg] at this; cases this
  have hc := fun W hF => lstore_any B gw vs.length sv sr sg sw (vtL vs) hn W (hw.fr (L := []) hF (by simp)) (Nat.le_trans hlo hF.size) (ownsFr hI.ow hF (by simp)) hne
  have HC : Hid _ := hc
  have F0 : Fr [] w (w.alloc (.cells (opC o) 54)) := (Fr.refl _ _).alloc _
  have HF : Hid _ := F0
  have HI : Hid _ := hI
  have HW : Hid _ := hw
  have HN : Hid _ := hne
  clear hc F0 hI hw hne
  unfold ptr at HC ⊢
  rw [show Value.agg (opC o) = .agg #[.int .i64 o.kind, .int .i64 o.on, .int .i64 o.a, .bool o.yes, .string o.s, .string o.t, .string o.u, .string o.v, .int .i64 o.cs, .int .i64 o.ca, .int .i64 o.cm, .int .i64 o.ra, .int .i64 o.ri, .string o.rn, .string o.rb, .string o.rt] from rfl]
  unfold opC at HF
  rw [hk] at HF ⊢
  clear hk
  go_enter Tryz.func14, Tryz.ntmps14
  go_wp2_with fail
  refine (HC.out _ HF.out).mono ?_
  rintro e w2 ⟨rfl, g, cap, gx, gr, gc, W2, O2, hg2, B2, l1, l2, l3, F2⟩
  have HR : Hid _ := And.intro W2 (And.intro O2 (And.intro hg2 (And.intro B2 (And.intro l1 (And.intro l2 (And.intro l3 F2))))))
  clear W2 O2 hg2 B2 l1 l2 l3 F2
  go_wp2
  go_ret
  refine ⟨rfl, ?_⟩
  have hI := HI.out
  have hF := HF.out
  obtain ⟨W2, O2, hg2, B2, l1, l2, l3, F2⟩ := HR.out
  have y := hF.size
  have F3 := (hF.sub (L' := gw :: sv.ownBlock.toList) (by simp)).trans F2
  have hT : FrT own [0, 1] w w2 := FrT.of F3 (by
    intro b hb
    simp only [List.mem_cons, Option.mem_toList] at hb
    rcases hb with rfl | hb
    · rw [hg]; simp
    · rw [hI.sl b (by simpa using hb)]; simp)
  obtain ⟨n1, n2, n3⟩ := B2.ne
  have hgT : ∃ cur, w2.heap[g]? = some (.cells cur 77 (0, 0)) := by
    rcases O2.2 with ⟨h, _⟩ | ⟨g', cap', cur, h, _, h2, _⟩
    · simp at h
    · simp only [Value.slice.injEq, Option.some.injEq, Addr.mk.injEq, and_true] at h
      exact ⟨cur, by rw [h.1]; exact h2⟩
  obtain ⟨cur, hcur⟩ := hgT
  have ng : ∀ {x n t V}, Row w2 x n t V → t ≠ 77 → g ≠ x := by
    intro x n t V hr ht e
    subst e
    unfold Row at hr
    rw [hcur] at hr
    simp only [Option.some.injEq, Obj.cells.injEq] at hr
    exact ht hr.2.1.symm
  have m1 := ng B2.p (by decide)
  have m2 := ng B2.r.r (by decide)
  have m3 := ng B2.r.c (by decide)
  have gl : g < w.heap.size → sv.ownBlock = some g := by
    intro h
    rcases hg2 with h2 | h2
    · exact h2
    · omega
  refine ⟨fun b => if b < w.heap.size then own b else if b = gx then (5, vs.length) else if b = gr then (6, vs.length) else if b = gc then (7, vs.length) else (1, 0), _, vs ++ [⟨gx, gr, gc, newSto, newR⟩], ⟨gx, gr, gc, rfl⟩, W2, ⟨?_, ?_, ?_, ?_⟩, by simp, ?_, ?_, hT.sub (by simp)⟩
  · rw [vtL_snoc, List.length_append]; exact O2
  · intro b hb
    simp only [Value.ownBlock, Option.some.injEq] at hb
    subst hb
    by_cases h : g < w.heap.size
    · rw [if_pos h]; exact hI.sl g (gl h)
    · rw [if_neg h, if_neg m1, if_neg m2, if_neg m3]
  · intro i v hi
    rw [List.getElem?_append] at hi
    split at hi
    · obtain ⟨a, b, c, d, e⟩ := hI.st i v hi
      obtain ⟨x1, x2, x3⟩ := a.lt
      rw [if_pos x1, if_pos x2, if_pos x3]
      exact ⟨StoB.frT hT a (by rw [b]; simp) (by rw [c]; simp) (by rw [d]; simp), b, c, d, by omega⟩
    · rename_i hil
      have hi0 : i - vs.length = 0 := by
        rcases Nat.eq_zero_or_pos (i - vs.length) with h | h
        · exact h
        · rw [List.getElem?_eq_none (by simp; omega)] at hi; cases hi
      rw [hi0] at hi
      simp only [List.getElem?_cons_zero, Option.some.injEq] at hi
      subst hi
      have : i = vs.length := by omega
      subst this
      refine ⟨B2, ?_, ?_, ?_, by show 0 ≤ _; omega⟩
      · rw [if_neg (by dsimp only; omega), if_pos rfl]
      · rw [if_neg (by dsimp only; omega), if_neg (by dsimp only; omega), if_pos rfl]
      · rw [if_neg (by dsimp only; omega), if_neg (by dsimp only; omega), if_neg (by dsimp only; omega), if_pos rfl]
  · intro b hb
    rw [if_pos (by omega)]; exact hI.lo b hb
  · intro i v hi
    refine ⟨v, ?_, rfl, rfl, rfl, rfl, rfl, rfl⟩
    rw [List.getElem?_append, if_pos]
    · exact hi
    · rcases Nat.lt_or_ge i vs.length with hlt | hge
      · exact hlt
      · rw [List.getElem?_eq_none hge] at hi; cases hi
  · intro b hb
    show (if b < w.heap.size then own b else _) = _
    rw [if_pos hb]
set_option maxRecDepth 100000 in
set_option maxHeartbeats 4000000 in
theorem step_idle (w : World) (B gw : Nat) (own : Nat → Nat × Nat) (sv sr sg sw : Value) (vs : List Vt) (k : Nat) (o : OpA) (hw : Wld w gw sv sr sg sw) (hI : InvV w B own sv vs k) (hk : 10 < o.kind ∧ o.kind < 20) (hn : vs.length = 0) :
    Calls Tryz.prog 14 #[ptr gw, .agg (opC o)] w fun e w' => e = .returned (.bool true) ∧ VStep w w' B gw own sr sg sw vs k (fun vs' => vs' = vs) := by
  have hv : sv = .slice none 0 0 ∨ ∃ g cap, sv = .slice (some ⟨g, 0, none⟩) 0 cap := by
    rcases hI.ow.2 with ⟨h, _⟩ | ⟨g, cap, cur, h, _⟩
    · exact .inl h
    · rw [hn] at h; exact .inr ⟨g, cap, h⟩
  have F0 : Fr [] w (w.alloc (.cells (opC o) 54)) := (Fr.refl _ _).alloc _
  have W0 := hw.fr F0 (by simp)
  have T0 : FrT own [] w (w.alloc (.cells (opC o) 54)) := FrT.of F0 (by simp)
  have hR : VStep w (w.alloc (.cells (opC o) 54)) B gw own sr sg sw vs k (fun vs' => vs' = vs) :=
    ⟨own, sv, vs, rfl, W0, ⟨(hI.frT T0 (by simp) (by simp) (by simp) (by simp)).ow, hI.sl, fun i v hi => by
      obtain ⟨a, b, c, d, e⟩ := (hI.frT T0 (by simp) (by simp) (by simp) (by simp)).st i v hi
      exact ⟨a, b, c, d, by omega⟩, hI.lo⟩, by omega, VExt.refl _, fun _ _ => rfl, T0.sub (by simp)⟩
  obtain ⟨c0, c1, c2, c3⟩ := W0.cells
  have HR : Hid _ := hR
  clear hR T0 F0 hI
  have k1 : ¬ (o.kind < 10) := by omega
  have k2 : (o.kind == 10) = false := by rw [beq_eq_false_iff_ne]; omega
  have k3 : o.kind < 20 := hk.2
  have k4 : (o.kind == 20) = false := by rw [beq_eq_false_iff_ne]; omega
  have k5 : ¬ (20 < o.kind) := by omega
  unfold opC at c0 c1 c2 c3 HR
  unfold ptr
  rw [show Value.agg (opC o) = .agg #[.int .i64 o.kind, .int .i64 o.on, .int .i64 o.a, .bool o.yes, .string o.s, .string o.t, .string o.u, .string o.v, .int .i64 o.cs, .int .i64 o.ca, .int .i64 o.cm, .int .i64 o.ra, .int .i64 o.ri, .string o.rn, .string o.rb, .string o.rt] from rfl]
  clear hw W0 hn hk
  rcases hv with rfl | ⟨g, cap, rfl⟩
  · go_enter Tryz.func14, Tryz.ntmps14
    go_wp2
    go_ret
    exact ⟨rfl, HR.out⟩
  · go_enter Tryz.func14, Tryz.ntmps14
    go_wp2
    go_ret
    exact ⟨rfl, HR.out⟩
end Go.Proofs.YtgalgjmhdbncbaaGreat
