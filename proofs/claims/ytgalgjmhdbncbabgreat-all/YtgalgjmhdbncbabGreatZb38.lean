import Derived.Test.YtgalgjmhdbncbabGreatZb00
import Derived.Test.YtgalgjmhdbncbabGreatZb33
import Derived.Deep.RegionHeld
namespace Go.Proofs.YtgalgjmhdbncbabGreat
open Go.RowKit
attribute [local go_sem ↓] Go.wp_at_zero Go.wp_at_succ

structure Vt where
  gx : Nat
  gr : Nat
  gc : Nat
  S : Sto
  R : RSt
def vtL (vs : List Vt) : List Value := vs.flatMap fun v => [ptr v.gx, ptr v.gr]
structure SS (W : World) (B gw g n : Nat) (sv sr sg sw : Value) (o : OpA) (xs : List Value) : Prop where
  wl : Wld W gw sv sr sg sw
  op : W.heap[g]? = some (.cells (opC o) 37 (0, 0))
  ow : W.ownsRow B 44 2 sv n xs
theorem SS.drew {W : World} {B gw g n : Nat} {sv sr sg sw : Value} {o : OpA} {xs : List Value} (h : SS W B gw g n sv sr sg sw o xs) : SS W.drew B gw g n sv sr sg sw o xs := ⟨h.wl, h.op, h.ow⟩
set_option maxRecDepth 100000 in
set_option maxHeartbeats 4000000 in
theorem step_stored (B gw n gv cap : Nat) (sv sr sg sw : Value) (o : OpA) (xs : List Value) (hv : sv = .slice (some ⟨gv, 0, none⟩) n cap) (hk : 10 < o.kind ∧ o.kind < 20) (hon : -9223372036854775808 ≤ o.on ∧ o.on ≤ 9223372036854775807) (hpos : 0 < n) (hn2 : n ≤ 1152921504606846976)
    (w : World) (hw : Wld w gw sv sr sg sw) (ho : w.ownsRow B 44 2 sv n xs) (Q : World → Prop)
    (hst : ∀ r, r < n → ∀ W, SS W B gw w.heap.size n sv sr sg sw o xs → Fr [] w W → ∃ gx gr, xs[r * 2]? = some (ptr gx) ∧ xs[r * 2 + 1]? = some (ptr gr) ∧ Calls Tryz.prog 9 #[.agg #[ptr gx, ptr gr], .agg (opC o)] W fun e w' => e = .returned (.bool true) ∧ SS w' B gw w.heap.size n sv sr sg sw o xs ∧ Q w') :
    Calls Tryz.prog 6 #[ptr gw, .agg (opC o)] w fun e w' => e = .returned (.bool true) ∧ Q w' := by
  subst hv
  have hlt := hw.lt
  have S0 : SS (w.alloc (.cells (opC o) 37)) B gw w.heap.size n (.slice (some ⟨gv, 0, none⟩) n cap) sr sg sw o xs := ⟨heap_of_old _ _ _ _ hlt hw, heap_of_new _ _ _ rfl, World.ownsRow.alloc ho _⟩
  have F0 : Fr [] w (w.alloc (.cells (opC o) 37)) := (Fr.refl _ _).alloc _
  obtain ⟨c0, c1, c2, c3⟩ := S0.wl.cells
  unfold opC at c0 c1 c2 c3
  have HS : Hid _ := S0
  have HF : Hid _ := F0
  have HT : Hid _ := hst
  clear S0 F0 hst ho
  have k1 : ¬ (o.kind < 10) := by omega
  have k2 : (o.kind == 10) = false := by rw [beq_eq_false_iff_ne]; omega
  have k3 : o.kind < 20 := hk.2
  unfold ptr
  rw [show Value.agg (opC o) = .agg #[.int .i64 o.kind, .int .i64 o.on, .int .i64 o.a, .bool o.yes, .string o.s, .string o.t, .string o.u, .string o.v, .int .i64 o.cs, .int .i64 o.ca, .int .i64 o.cm, .int .i64 o.ra, .int .i64 o.ri, .string o.rn, .string o.rb, .string o.rt] from rfl]
  go_enter Tryz.func6, Tryz.ntmps6
  go_wp2_with fail
  suffices H : ∀ W, SS W B gw w.heap.size n (.slice (some ⟨gv, 0, none⟩) n cap) sr sg sw o xs → Fr [] w W → Code.wp Tryz.prog _ _ _ W from H _ HS.out HF.out
  clear HS HF c0 c1 c2 c3 hw
  intro W S1 F1
  refine wp_region_held_drew (S := fun W' => SS W' B gw w.heap.size n (.slice (some ⟨gv, 0, none⟩) n cap) sr sg sw o xs) (by kernel_rfl) S1.drew (fun hHeld => ?_)
  refine tp 0 _ ?r1
  refine tp 1 _ ?r2
  refine tp 2 _ ?r3
  refine tk 3 ?v4 ?y4 ?r4
  case y4 => (intro W' hW; obtain ⟨c0, c1, c2, c3⟩ := Wld.cells hW.wl; go_simp; try with_reducible rfl)
  refine tp 4 _ ?r5
  refine tk 5 ?v6 ?y6 ?r6
  case y6 => (intro W' hW; obtain ⟨z0, z1, z2, z3, z4, z5⟩ := cellsO hW.op; go_simp; try with_reducible rfl)
  refine tp 6 _ ?r7
  refine tp 7 _ ?r8
  refine tp 8 _ ?r9
  refine tk 9 ?v10 ?y10 ?r10
  case y10 => (intro W' hW; obtain ⟨c0, c1, c2, c3⟩ := Wld.cells hW.wl; go_simp; try with_reducible rfl)
  refine tp 10 _ ?r11
  refine tk 14 ?v12 ?y12 ?r12
  case y12 => (intro W' hW; obtain ⟨z0, z1, z2, z3, z4, z5, z6, z7, z8, z9, z10, z11, z12, z13, z14, z15⟩ := cellsF hW.op; go_simp; try with_reducible rfl)
  refine wpAnyH_ready (rs := [11]) (by kernel_rfl) (by simp) ?_
  refine AllReadyH.cons rfl (fun K hK => ?_) AllReadyH.nil
  go_simp
  refine (lpick_any o.on n hon.1 hon.2 hpos hn2 _).mono ?_
  rintro e wa ⟨⟨r, hr, rfl⟩, hw⟩
  subst hw
  obtain ⟨gx, gr, e1, e2, hcall⟩ := HT.out r hr _ S1.drew F1.drew
  have E1 : Hid _ := e1
  have E2 : Hid _ := e2
  have HC : Hid _ := hcall
  clear e1 e2 hcall
  go_wp2_with fail
  refine hK.out _ _ hHeld (fun hHeld => ?_)
  clear hK K
  refine tp 12 _ ?r13
  refine tk 13 ?v14 ?y14 ?r14
  case y14 => (intro W' hW; have he0 := (World.ownsRow.cellAt hW.ow (r * 2) (by omega)).trans E1.out; have he1 := (World.ownsRow.cellAt hW.ow (r * 2 + 1) (by omega)).trans E2.out; go_simp; try with_reducible rfl)
  refine wpAnyH_ready (rs := [15]) (by kernel_rfl) (by simp) ?_
  refine AllReadyH.cons rfl (fun K hK => ?_) AllReadyH.nil
  go_simp
  refine Calls.mono HC.out ?_
  rintro e wb ⟨rfl, hS2, hQ⟩
  go_wp2_with fail
  refine hK.out _ _ hS2 (fun hHeld => ?_)
  clear hK K
  refine tp 16 _ ?r15
  refine wpAnyH_done (by kernel_rfl) ?_ _
  go_wp2
  go_ret
  exact ⟨rfl, hQ⟩
end Go.Proofs.YtgalgjmhdbncbabGreat
namespace Go.Proofs.YtgalgjmhdbncbabGreat
open Go.RowKit
attribute [local go_sem ↓] Go.wp_at_zero Go.wp_at_succ

structure FrT (own : Nat → Nat × Nat) (T : List Nat) (w w' : World) : Prop where
  os : w'.os = w.os
  tape : w'.tape = w.tape
  output : w'.output = w.output
  size : w.heap.size ≤ w'.heap.size
  block : ∀ k, k < w.heap.size → (own k).1 ∉ T → w'.heap[k]? = w.heap[k]?
theorem FrT.of {own : Nat → Nat × Nat} {L T : List Nat} {w w' : World} (h : Fr L w w') (hL : ∀ k, k ∈ L → (own k).1 ∈ T) : FrT own T w w' :=
  ⟨h.os, h.tape, h.output, h.size, fun k hk hn => h.block k hk (fun hm => hn (hL k hm))⟩
theorem FrT.row {own : Nat → Nat × Nat} {T : List Nat} {w w' : World} {g : Nat} {cs : Array Value} {t : TypeId} (hf : FrT own T w w') (h : w.heap[g]? = some (.cells cs t (0, 0))) (hg : (own g).1 ∉ T) : w'.heap[g]? = some (.cells cs t (0, 0)) := by
  rw [hf.block g _ hg]; exact h
  rcases Nat.lt_or_ge g w.heap.size with hlt | hge
  · exact hlt
  · rw [Array.getElem?_eq_none hge] at h; cases h
theorem FrT.below {own : Nat → Nat × Nat} {T : List Nat} {w w' : World} {B : Nat} (h : FrT own T w w') (hB : B ≤ w.heap.size) (ho : ∀ b, b < B → (own b).1 ∉ T) : Below B w w' :=
  ⟨h.os, h.tape, h.output, h.size, fun k hk => h.block k (by omega) (ho k hk)⟩
theorem FrT.owns {own : Nat → Nat × Nat} {T : List Nat} {w w' : World} {B e size n : Nat} {v : Value} {xs : List Value} (hf : FrT own T w w') (h : w.ownsRow B e size v n xs) (hb : ∀ b, v.ownBlock = some b → (own b).1 ∉ T) : w'.ownsRow B e size v n xs := by
  refine ⟨h.1, ?_⟩
  rcases h.2 with hn | ⟨g, cap, cur, rfl, h1, h2, h3⟩
  · exact .inl hn
  · exact .inr ⟨g, cap, cur, rfl, h1, hf.row h2 (hb g rfl), h3⟩
theorem FrT.sub {own : Nat → Nat × Nat} {T T' : List Nat} {w w' : World} (h : FrT own T w w') (hT : ∀ k, k ∈ T → k ∈ T') : FrT own T' w w' := ⟨h.os, h.tape, h.output, h.size, fun k hk hn => h.block k hk (fun hm => hn (hT _ hm))⟩
theorem StoB.frT {own : Nat → Nat × Nat} {T : List Nat} {w w' : World} {gx gr gc : Nat} {S : Sto} {R : RSt} (hf : FrT own T w w') (h : StoB w gx gr gc S R) (h1 : (own gx).1 ∉ T) (h2 : (own gr).1 ∉ T) (h3 : (own gc).1 ∉ T) : StoB w' gx gr gc S R :=
  ⟨hf.row h.p h1, ⟨hf.row h.r.r h2, hf.row h.r.c h3, h.r.left⟩, h.l⟩
theorem vtL_even (vs : List Vt) : ∀ r, (vtL vs)[r * 2]? = (vs[r]?).map fun v => ptr v.gx := by
  induction vs with
  | nil => intro r; simp [vtL]
  | cons a l ih =>
    intro r
    cases r with
    | zero => simp [vtL]
    | succ r => rw [show (r + 1) * 2 = r * 2 + 1 + 1 by omega]; simpa [vtL] using ih r
theorem vtL_odd (vs : List Vt) : ∀ r, (vtL vs)[r * 2 + 1]? = (vs[r]?).map fun v => ptr v.gr := by
  induction vs with
  | nil => intro r; simp [vtL]
  | cons a l ih =>
    intro r
    cases r with
    | zero => simp [vtL]
    | succ r => rw [show (r + 1) * 2 + 1 = r * 2 + 1 + 1 + 1 by omega]; simpa [vtL] using ih r
theorem vtL_snoc (vs : List Vt) (v : Vt) : vtL (vs ++ [v]) = vtL vs ++ [ptr v.gx, ptr v.gr] := by simp [vtL]
theorem vtL_set (vs : List Vt) (i : Nat) (v v' : Vt) (h : vs[i]? = some v) (h1 : v'.gx = v.gx) (h2 : v'.gr = v.gr) : vtL (vs.set i v') = vtL vs := by
  induction vs generalizing i with
  | nil => simp at h
  | cons a l ih =>
    cases i with
    | zero => simp at h; subst h; simp [vtL, h1, h2]
    | succ i => simp at h; have := ih i h; simp [vtL] at this ⊢; exact this
structure InvV (w : World) (B : Nat) (own : Nat → Nat × Nat) (sv : Value) (vs : List Vt) (k : Nat) : Prop where
  ow : w.ownsRow B 44 2 sv vs.length (vtL vs)
  sl : ∀ b, sv.ownBlock = some b → own b = (1, 0)
  st : ∀ i v, vs[i]? = some v → StoB w v.gx v.gr v.gc v.S v.R ∧ own v.gx = (5, i) ∧ own v.gr = (6, i) ∧ own v.gc = (7, i) ∧ v.R.writes ≤ k
  lo : ∀ b, b < B → own b = (99, 0)
theorem InvV.frT {w w' : World} {B k : Nat} {own : Nat → Nat × Nat} {sv : Value} {vs : List Vt} {T : List Nat} (h : InvV w B own sv vs k) (hf : FrT own T w w') (h1 : 1 ∉ T) (h5 : 5 ∉ T) (h6 : 6 ∉ T) (h7 : 7 ∉ T) : InvV w' B own sv vs k :=
  ⟨hf.owns h.ow (fun b hb => by rw [h.sl b hb]; exact h1), h.sl, fun i v hi => by
    obtain ⟨a, b, c, d, e⟩ := h.st i v hi
    exact ⟨StoB.frT hf a (by rw [b]; exact h5) (by rw [c]; exact h6) (by rw [d]; exact h7), b, c, d, e⟩, h.lo⟩
def VExt (vs vs' : List Vt) : Prop := ∀ (i : Nat) (v : Vt), vs[i]? = some v → ∃ v' : Vt, vs'[i]? = some v' ∧ v'.gx = v.gx ∧ v'.gr = v.gr ∧ v'.gc = v.gc ∧ v'.S.tab = v.S.tab ∧ v'.R.user = v.R.user ∧ v'.R.tables = v.R.tables
theorem VExt.refl (vs : List Vt) : VExt vs vs := fun _ v h => ⟨v, h, rfl, rfl, rfl, rfl, rfl, rfl⟩
def VStep (w w' : World) (B gw : Nat) (own : Nat → Nat × Nat) (sr sg sw : Value) (vs : List Vt) (k : Nat) (D : List Vt → Prop) : Prop :=
  ∃ own' sv' vs', D vs' ∧ Wld w' gw sv' sr sg sw ∧ InvV w' B own' sv' vs' (k + 1) ∧ vs'.length ≤ vs.length + 1 ∧ VExt vs vs' ∧ (∀ b, b < w.heap.size → own' b = own b) ∧ FrT own [0, 1, 5, 6, 7] w w'
def Called (o : OpA) (vs vs' : List Vt) : Prop := ∃ (r : Nat) (v : Vt) (R' : RSt), vs[r]? = some v ∧ vs' = vs.set r ⟨v.gx, v.gr, v.gc, storedM o v.S, R'⟩
theorem InvV.lt {w : World} {B k : Nat} {own : Nat → Nat × Nat} {sv : Value} {vs : List Vt} (h : InvV w B own sv vs k) : ∀ b, sv.ownBlock = some b → b < w.heap.size := fun b hb => (World.ownsRow.lt h.ow b hb).2

theorem stored_step (w w' : World) (B gw : Nat) (own : Nat → Nat × Nat) (sv sr sg sw : Value) (vs : List Vt) (k i : Nat) (v : Vt) (hw : Wld w gw sv sr sg sw) (hg : own gw = (0, 0)) (hI : InvV w B own sv vs k) (hi : vs[i]? = some v) (o : OpA) (hS : Stored w w' v.gx v.gr v.gc v.S v.R o) :
    VStep w w' B gw own sr sg sw vs k (Called o vs) ∧ Wld w' gw sv sr sg sw ∧ w'.ownsRow B 44 2 sv vs.length (vtL vs) := by
  obtain ⟨S', R', hB', e1, e2, e3, e4, hF, hSo⟩ := hS
  obtain ⟨a, b, c, d, e⟩ := hI.st i v hi
  have hT : FrT own [5, 6, 7] w w' := FrT.of hF (by intro k hk; simp at hk; rcases hk with rfl | rfl | rfl <;> simp [b, c, d])
  have W' : Wld w' gw sv sr sg sw := hT.row hw (by rw [hg]; simp)
  have O' := hT.owns hI.ow (fun b hb => by rw [hI.sl b hb]; simp)
  refine ⟨⟨own, sv, vs.set i ⟨v.gx, v.gr, v.gc, S', R'⟩, ⟨i, v, R', hi, by rw [hSo]⟩, W', ⟨?_, hI.sl, ?_, hI.lo⟩, by simp, ?_, fun _ _ => rfl, hT.sub (by simp)⟩, W', O'⟩
  · rw [List.length_set, vtL_set vs i v ⟨v.gx, v.gr, v.gc, S', R'⟩ hi rfl rfl]; exact O'
  · intro j u hj
    rw [List.getElem?_set] at hj
    by_cases hij : i = j
    · subst hij
      rw [if_pos rfl] at hj
      split at hj
      · simp only [Option.some.injEq] at hj
        subst hj
        exact ⟨hB', b, c, d, by dsimp only; omega⟩
      · cases hj
    · rw [if_neg hij] at hj
      obtain ⟨a2, b2, c2, d2, e5⟩ := hI.st j u hj
      refine ⟨StoB.fr a2 hF ?_ ?_ ?_, b2, c2, d2, by omega⟩
      · simp; refine ⟨?_, ?_, ?_⟩ <;> intro h <;> rw [h] at b2 <;> simp_all
      · simp; refine ⟨?_, ?_, ?_⟩ <;> intro h <;> rw [h] at c2 <;> simp_all
      · simp; refine ⟨?_, ?_, ?_⟩ <;> intro h <;> rw [h] at d2 <;> simp_all
  · intro j u hj
    by_cases hij : i = j
    · subst hij
      rw [hi] at hj
      simp only [Option.some.injEq] at hj
      subst hj
      refine ⟨⟨v.gx, v.gr, v.gc, S', R'⟩, ?_, rfl, rfl, rfl, e1, e2, e3⟩
      rw [List.getElem?_set, if_pos rfl, if_pos]
      rcases Nat.lt_or_ge i vs.length with hlt | hge
      · exact hlt
      · rw [List.getElem?_eq_none hge] at hi; cases hi
    · exact ⟨u, by rw [List.getElem?_set, if_neg hij]; exact hj, rfl, rfl, rfl, rfl, rfl, rfl⟩
theorem step_call (w : World) (B gw : Nat) (own : Nat → Nat × Nat) (sv sr sg sw : Value) (vs : List Vt) (k : Nat) (o : OpA) (hw : Wld w gw sv sr sg sw) (hg : own gw = (0, 0)) (hI : InvV w B own sv vs k) (hk : 10 < o.kind ∧ o.kind < 20) (hon : -9223372036854775808 ≤ o.on ∧ o.on ≤ 9223372036854775807) (ha : o.a ≤ 9223372036854775807)
    (hn : vs.length ≤ 1000000000000) (hn0 : 0 < vs.length) (hkk : k < 4611686018427387904) :
    Calls Tryz.prog 6 #[ptr gw, .agg (opC o)] w fun e w' => e = .returned (.bool true) ∧ VStep w w' B gw own sr sg sw vs k (Called o vs) := by
  obtain ⟨gv, cap, hv, _, _⟩ := World.ownsRow.form hI.ow hn0
  refine step_stored B gw vs.length gv cap sv sr sg sw o (vtL vs) hv hk hon hn0 (by omega) w hw hI.ow _ ?_
  intro r hr W hSS hF
  have hv2 : vs[r]? = some vs[r] := List.getElem?_eq_getElem hr
  obtain ⟨a, b, c, d, e⟩ := hI.st r _ hv2
  refine ⟨vs[r].gx, vs[r].gr, by rw [vtL_even, hv2]; rfl, by rw [vtL_odd, hv2]; rfl, ?_⟩
  refine Calls.mono (stored_any _ _ vs[r].gc vs[r].S vs[r].R o ha (by omega) W (StoB.fr a hF (by simp) (by simp) (by simp))) ?_
  rintro e' w' ⟨rfl, hSt⟩
  have hlt := a.lt
  have hSt2 : Stored w w' vs[r].gx vs[r].gr vs[r].gc vs[r].S vs[r].R o := by
    obtain ⟨S', R', h1, h2, h3, h4, h5, h6, h7⟩ := hSt
    exact ⟨S', R', h1, h2, h3, h4, h5, (hF.sub (by simp)).trans h6, h7⟩
  obtain ⟨h1, h2, h3⟩ := stored_step w w' B gw own sv sr sg sw vs k r vs[r] hw hg hI hv2 o hSt2
  refine ⟨rfl, ⟨h2, ?_, h3⟩, h1⟩
  obtain ⟨S', R', _, _, _, _, _, h6, _⟩ := hSt
  exact keepRow h6 hSS.op (by simp; omega)
set_option maxRecDepth 100000 in
set_option maxHeartbeats 4000000 in
theorem step_new (w : World) (B gw : Nat) (own : Nat → Nat × Nat) (sv sr sg sw : Value) (vs : List Vt) (k : Nat) (o : OpA) (hw : Wld w gw sv sr sg sw) (hg : own gw = (0, 0)) (hI : InvV w B own sv vs k) (hlo : B ≤ w.heap.size) (hk : o.kind = 10) (hn : vs.length ≤ 1000000000000) :
    Calls Tryz.prog 6 #[ptr gw, .agg (opC o)] w fun e w' => e = .returned (.bool true) ∧ VStep w w' B gw own sr sg sw vs k (fun vs' => ∃ gx gr gc, vs' = vs ++ [⟨gx, gr, gc, newSto, newR⟩]) := by
  have hlt := hw.lt
  have hne : ∀ b, sv.ownBlock = some b → b ≠ gw := fun b hb e => by have := hI.sl b hb; rw [e, hg] at this; cases this
  have hc := fun W hF => lstore_any B gw vs.length sv sr sg sw (vtL vs) hn W (hw.fr (L := []) hF (by simp)) (Nat.le_trans hlo hF.size) (ownsFr hI.ow hF (by simp)) hne
  have HC : Hid _ := hc
  have F0 : Fr [] w (w.alloc (.cells (opC o) 37)) := (Fr.refl _ _).alloc _
  have HF : Hid _ := F0
  have HI : Hid _ := hI
  have HW : Hid _ := hw
  have HN : Hid _ := hne
  clear hc F0 hI hw hne
  unfold ptr at HC ⊢
  rw [show Value.agg (opC o) = .agg #[.int .i64 o.kind, .int .i64 o.on, .int .i64 o.a, .bool o.yes, .string o.s, .string o.t, .string o.u, .string o.v, .int .i64 o.cs, .int .i64 o.ca, .int .i64 o.cm, .int .i64 o.ra, .int .i64 o.ri, .string o.rn, .string o.rb, .string o.rt] from rfl]
  unfold opC at HF
  rw [hk] at HF ⊢
  clear hk
  go_enter Tryz.func6, Tryz.ntmps6
  go_wp2_with fail
  refine (HC.out _ HF.out).mono ?_
  rintro e w2 ⟨rfl, g, cap, gx, gr, gc, W2, O2, hg2, B2, l1, l2, l3, F2⟩
  have HR : Hid _ := And.intro W2 (And.intro O2 (And.intro hg2 (And.intro B2 (And.intro l1 (And.intro l2 (And.intro l3 F2))))))
  clear W2 O2 hg2 B2 l1 l2 l3 F2
  go_wp2
  go_ret
  refine ⟨rfl, ?_⟩
  have hI := HI.out
  have hF := HF.out
  obtain ⟨W2, O2, hg2, B2, l1, l2, l3, F2⟩ := HR.out
  have y := hF.size
  have F3 := (hF.sub (L' := gw :: sv.ownBlock.toList) (by simp)).trans F2
  have hT : FrT own [0, 1] w w2 := FrT.of F3 (by
    intro b hb
    simp only [List.mem_cons, Option.mem_toList] at hb
    rcases hb with rfl | hb
    · rw [hg]; simp
    · rw [hI.sl b (by simpa using hb)]; simp)
  obtain ⟨n1, n2, n3⟩ := B2.ne
  have hgT : ∃ cur, w2.heap[g]? = some (.cells cur 44 (0, 0)) := by
    rcases O2.2 with ⟨h, _⟩ | ⟨g', cap', cur, h, _, h2, _⟩
    · simp at h
    · simp only [Value.slice.injEq, Option.some.injEq, Addr.mk.injEq, and_true] at h
      exact ⟨cur, by rw [h.1]; exact h2⟩
  obtain ⟨cur, hcur⟩ := hgT
  have ng : ∀ {x n t V}, Row w2 x n t V → t ≠ 44 → g ≠ x := by
    intro x n t V hr ht e
    subst e
    unfold Row at hr
    rw [hcur] at hr
    simp only [Option.some.injEq, Obj.cells.injEq] at hr
    exact ht hr.2.1.symm
  have m1 := ng B2.p (by decide)
  have m2 := ng B2.r.r (by decide)
  have m3 := ng B2.r.c (by decide)
  have gl : g < w.heap.size → sv.ownBlock = some g := by
    intro h
    rcases hg2 with h2 | h2
    · exact h2
    · omega
  refine ⟨fun b => if b < w.heap.size then own b else if b = gx then (5, vs.length) else if b = gr then (6, vs.length) else if b = gc then (7, vs.length) else (1, 0), _, vs ++ [⟨gx, gr, gc, newSto, newR⟩], ⟨gx, gr, gc, rfl⟩, W2, ⟨?_, ?_, ?_, ?_⟩, by simp, ?_, ?_, hT.sub (by simp)⟩
  · rw [vtL_snoc, List.length_append]; exact O2
  · intro b hb
    simp only [Value.ownBlock, Option.some.injEq] at hb
    subst hb
    by_cases h : g < w.heap.size
    · rw [if_pos h]; exact hI.sl g (gl h)
    · rw [if_neg h, if_neg m1, if_neg m2, if_neg m3]
  · intro i v hi
    rw [List.getElem?_append] at hi
    split at hi
    · obtain ⟨a, b, c, d, e⟩ := hI.st i v hi
      obtain ⟨x1, x2, x3⟩ := a.lt
      rw [if_pos x1, if_pos x2, if_pos x3]
      exact ⟨StoB.frT hT a (by rw [b]; simp) (by rw [c]; simp) (by rw [d]; simp), b, c, d, by omega⟩
    · rename_i hil
      have hi0 : i - vs.length = 0 := by
        rcases Nat.eq_zero_or_pos (i - vs.length) with h | h
        · exact h
        · rw [List.getElem?_eq_none (by simp; omega)] at hi; cases hi
      rw [hi0] at hi
      simp only [List.getElem?_cons_zero, Option.some.injEq] at hi
      subst hi
      have : i = vs.length := by omega
      subst this
      refine ⟨B2, ?_, ?_, ?_, by show 0 ≤ _; omega⟩
      · rw [if_neg (by dsimp only; omega), if_pos rfl]
      · rw [if_neg (by dsimp only; omega), if_neg (by dsimp only; omega), if_pos rfl]
      · rw [if_neg (by dsimp only; omega), if_neg (by dsimp only; omega), if_neg (by dsimp only; omega), if_pos rfl]
  · intro b hb
    rw [if_pos (by omega)]; exact hI.lo b hb
  · intro i v hi
    refine ⟨v, ?_, rfl, rfl, rfl, rfl, rfl, rfl⟩
    rw [List.getElem?_append, if_pos]
    · exact hi
    · rcases Nat.lt_or_ge i vs.length with hlt | hge
      · exact hlt
      · rw [List.getElem?_eq_none hge] at hi; cases hi
  · intro b hb
    show (if b < w.heap.size then own b else _) = _
    rw [if_pos hb]
set_option maxRecDepth 100000 in
set_option maxHeartbeats 4000000 in
theorem step_idle (w : World) (B gw : Nat) (own : Nat → Nat × Nat) (sv sr sg sw : Value) (vs : List Vt) (k : Nat) (o : OpA) (hw : Wld w gw sv sr sg sw) (hI : InvV w B own sv vs k) (hk : 10 < o.kind ∧ o.kind < 20) (hn : vs.length = 0) :
    Calls Tryz.prog 6 #[ptr gw, .agg (opC o)] w fun e w' => e = .returned (.bool true) ∧ VStep w w' B gw own sr sg sw vs k (fun vs' => vs' = vs) := by
  have hv : sv = .slice none 0 0 ∨ ∃ g cap, sv = .slice (some ⟨g, 0, none⟩) 0 cap := by
    rcases hI.ow.2 with ⟨h, _⟩ | ⟨g, cap, cur, h, _⟩
    · exact .inl h
    · rw [hn] at h; exact .inr ⟨g, cap, h⟩
  have F0 : Fr [] w (w.alloc (.cells (opC o) 37)) := (Fr.refl _ _).alloc _
  have W0 := hw.fr F0 (by simp)
  have T0 : FrT own [] w (w.alloc (.cells (opC o) 37)) := FrT.of F0 (by simp)
  have hR : VStep w (w.alloc (.cells (opC o) 37)) B gw own sr sg sw vs k (fun vs' => vs' = vs) :=
    ⟨own, sv, vs, rfl, W0, ⟨(hI.frT T0 (by simp) (by simp) (by simp) (by simp)).ow, hI.sl, fun i v hi => by
      obtain ⟨a, b, c, d, e⟩ := (hI.frT T0 (by simp) (by simp) (by simp) (by simp)).st i v hi
      exact ⟨a, b, c, d, by omega⟩, hI.lo⟩, by omega, VExt.refl _, fun _ _ => rfl, T0.sub (by simp)⟩
  obtain ⟨c0, c1, c2, c3⟩ := W0.cells
  have HR : Hid _ := hR
  clear hR T0 F0 hI
  have k1 : ¬ (o.kind < 10) := by omega
  have k2 : (o.kind == 10) = false := by rw [beq_eq_false_iff_ne]; omega
  have k3 : o.kind < 20 := hk.2
  have k4 : (o.kind == 20) = false := by rw [beq_eq_false_iff_ne]; omega
  have k5 : ¬ (20 < o.kind) := by omega
  unfold opC at c0 c1 c2 c3 HR
  unfold ptr
  rw [show Value.agg (opC o) = .agg #[.int .i64 o.kind, .int .i64 o.on, .int .i64 o.a, .bool o.yes, .string o.s, .string o.t, .string o.u, .string o.v, .int .i64 o.cs, .int .i64 o.ca, .int .i64 o.cm, .int .i64 o.ra, .int .i64 o.ri, .string o.rn, .string o.rb, .string o.rt] from rfl]
  clear hw W0 hn hk
  rcases hv with rfl | ⟨g, cap, rfl⟩
  · go_enter Tryz.func6, Tryz.ntmps6
    go_wp2
    go_ret
    exact ⟨rfl, HR.out⟩
  · go_enter Tryz.func6, Tryz.ntmps6
    go_wp2
    go_ret
    exact ⟨rfl, HR.out⟩
end Go.Proofs.YtgalgjmhdbncbabGreat
namespace Go.Proofs.YtgalgjmhdbncbabGreat
open Go.RowKit
attribute [local go_sem ↓] Go.wp_at_zero Go.wp_at_succ

def zopC : Array Value := #[.int .i64 0, .int .i64 0, .int .i64 0, .bool false, .string ⟨#[]⟩, .string ⟨#[]⟩, .string ⟨#[]⟩, .string ⟨#[]⟩, .int .i64 0, .int .i64 0, .int .i64 0, .int .i64 0, .int .i64 0, .string ⟨#[]⟩, .string ⟨#[]⟩, .string ⟨#[]⟩]
theorem al54 : Instr.alloc 37 true (.tuple #[]) = Al 37 := rfl
theorem run_al54 (w : World) : Sem.run Tryz.prog (Al 37) w = .ok (.pointer (some ⟨w.heap.size, 0, none⟩)) (w.alloc (.cells zopC 37)) := by kernel_rfl
theorem stw54 (p v : Value) : Instr.storeAt 37 p v = StT 37 p v := rfl
theorem run_stT54 (g : Nat) (v : Value) (w : World) : Sem.run Tryz.prog (StT 37 (.pointer (some ⟨g, 0, none⟩)) v) w = stN (blk w g) 16 v g w (stO Tryz.prog 37 v g w) := run_stT 37 16 (by kernel_rfl) g v w
theorem stN_op (k on a : Int) (y : Bool) (s t u v : ByteArray) (c1 c2 c3 r1 r2 : Int) (r3 r4 r5 : ByteArray) (g : Nat) (w : World) (r : Result Unit) :
    stN (some (.cells zopC 37 (0, 0))) 16 (.agg #[.int .i64 k, .int .i64 on, .int .i64 a, .bool y, .string s, .string t, .string u, .string v, .int .i64 c1, .int .i64 c2, .int .i64 c3, .int .i64 r1, .int .i64 r2, .string r3, .string r4, .string r5]) g w r
      = .ok () (w.setRow g #[.int .i64 k, .int .i64 on, .int .i64 a, .bool y, .string s, .string t, .string u, .string v, .int .i64 c1, .int .i64 c2, .int .i64 c3, .int .i64 r1, .int .i64 r2, .string r3, .string r4, .string r5]) := by
  unfold stN
  exact if_pos ⟨rfl, rfl, rfl, by simp [Value.oneCell']⟩
theorem ldw54 (v : Value) : Instr.loadAt 37 v = LdT 37 v := rfl
theorem run_ldT54 (g off : Nat) (w : World) : Sem.run Tryz.prog (LdT 37 (.pointer (some ⟨g, off, none⟩))) w = ldN (blk w g) off 16 w (ldO Tryz.prog 37 g off w) := run_ldT 37 16 _ Tryz.underlying37 rfl (by kernel_rfl) g off w
theorem ldN_op (k on a : Int) (y : Bool) (s t u v : ByteArray) (c1 c2 c3 r1 r2 : Int) (r3 r4 r5 : ByteArray) (w : World) (r : Result Value) :
    ldN (some (.cells #[.int .i64 k, .int .i64 on, .int .i64 a, .bool y, .string s, .string t, .string u, .string v, .int .i64 c1, .int .i64 c2, .int .i64 c3, .int .i64 r1, .int .i64 r2, .string r3, .string r4, .string r5] 37 (0, 0))) 0 16 w r
      = .ok (.agg #[.int .i64 k, .int .i64 on, .int .i64 a, .bool y, .string s, .string t, .string u, .string v, .int .i64 c1, .int .i64 c2, .int .i64 c3, .int .i64 r1, .int .i64 r2, .string r3, .string r4, .string r5]) w := by
  unfold ldN
  exact if_pos ⟨rfl, Nat.le_refl _⟩
theorem add_block (a : Addr) (j : Nat) : (a.add j).block = a.block := by unfold Addr.add; split <;> rfl
def OpAt (w : World) (a : Addr) (o : OpA) : Prop := ∀ j v, (opC o).toList[j]? = some v → w.cell? (a.add j) = some v
theorem run_load54 (w : World) (a : Addr) (o : OpA) (h : OpAt w a o) : Sem.run Tryz.prog (LdT 37 (.pointer (some a))) w = .ok (.agg (opC o)) w := by
  have hl : (loadCells a (opC o).toList.length).run Tryz.prog w = .ok (opC o).toList.toArray w := run_loadCells_list (P := Tryz.prog) w a (opC o).toList h
  obtain ⟨i, hi, hs⟩ : ∃ i, Tryz.prog.info? 37 = some i ∧ i.size = 16 := by
    have h : (Tryz.prog.info? 37).map (·.size) = some 16 := by kernel_rfl
    rw [Option.map_eq_some_iff] at h
    exact h
  have hagg : (isAgg 37).run Tryz.prog w = .ok true w := by
    unfold isAgg
    rw [Sem.run_bind, run_underlying Tryz.underlying37 w]
    rfl
  have hl2 : (loadCells a 16).run Tryz.prog w = .ok (opC o) w := hl
  show Sem.run Tryz.prog (Instr.loadAt 37 (.pointer (some a))) w = _
  simp [Instr.loadAt, Instr.sureAddr, loadVar, Sem.run_bind, hagg, sizeOf, typeInfo, hi, hs, hl2]
attribute [local go_sem ↓] al54 stw54 ldw54
attribute [local go_sem] run_al54 run_stT54 stN_op blk_new alloc_setRow run_ldT54 ldN_op
set_option maxRecDepth 100000 in
set_option maxHeartbeats 4000000 in
theorem plays_any (lo hi : Int) (a : Addr) (len cap : Nat) (os : Nat → OpA) (Inv : Nat → Nat → Nat → World → Prop) (w : World) (hab : 0 < len → a.block < w.heap.size) (hlen : len ≤ 1152921504606846975)
    (hos : ∀ i, i < len → OpAt w (a.add (i * 16)) (os i))
    (hbeg : ∀ W, Calls Tryz.prog 5 #[.int .i64 lo, .int .i64 hi] W fun e w' => e = .returned (.bool true) ∧ Below W.heap.size W w')
    (hinit : ∀ W : World, w.heap.size ≤ W.heap.size → Inv w.heap.size W.heap.size 0 (W.alloc (.cells #[.slice none 0 0, .slice none 0 0, .slice none 0 0, .slice none 0 0] 31)))
    (hal : ∀ B gw k W o, Inv B gw k W → Inv B gw k (W.alloc o)) (hsk : ∀ B gw k W, Inv B gw k W → Inv B gw (k + 1) W)
    (hst : ∀ i B gw k W, i < len → lo ≤ (os i).kind → (os i).kind ≤ hi → B ≤ W.heap.size → k < len → Inv B gw k W → Calls Tryz.prog 6 #[ptr gw, .agg (opC (os i))] W fun e w' => e = .returned (.bool true) ∧ Inv B gw (k + 1) w' ∧ Below B W w') :
    Calls Tryz.prog 4 #[.slice (some a) len cap, .int .i64 lo, .int .i64 hi] w fun e w' => e = .returned (.bool true) ∧ Below w.heap.size w w' := by
  have HB : Hid _ := hbeg
  have HI : Hid _ := hinit
  have HA : Hid _ := hal
  have HK : Hid _ := hsk
  have HT : Hid _ := hst
  have HO : Hid _ := hos
  have HL : Hid _ := hlen
  clear hbeg hinit hal hsk hst hos hlen
  go_enter Tryz.func4, Tryz.ntmps4
  go_wp2_with fail
  refine (HB.out _).mono ?_
  rintro e w1 ⟨rfl, b1⟩
  go_wp2
  go_loopw [7, 9, 10] (fun _ i _ wr => ∃ k : Nat, k ≤ len ∧ i = .int .i64 k ∧ Inv w.heap.size w1.heap.size k wr ∧ Below w.heap.size w wr) (fun _ i _ _ => len - (intOf i).toNat)
  case atStart => exact ⟨0, by omega, rfl, HI.out _ b1.size, b1.alloc b1.size _⟩
  case round =>
    obtain ⟨k, hk, rfl, hI, hB⟩ := hrel
    by_cases hlt : k < len
    · obtain ⟨o, ho⟩ : ∃ o, os k = o := ⟨_, rfl⟩
      have hO := HO.out k hlt
      rw [ho] at hO
      have hL := run_load54 wr (a.add (k * 16)) o (fun j v hj => by rw [hB.cell (p := (a.add (k * 16)).add j) (by rw [add_block, add_block]; exact hab (by omega))]; exact hO j v hj)
      unfold opC at hL
      have hm : (k : Int) < 1152921504606846976 := by have := HL.out; omega
      clear hO
      by_cases h1 : o.kind < lo
      · have hI2 := HK.out _ _ _ _ (HA.out _ _ _ _ (.cells (opC o) 37) hI)
        have hB2 := hB.alloc (Nat.le_of_lt_succ (Nat.lt_succ_of_le hB.size)) (.cells (opC o) 37)
        unfold opC at hI2 hB2
        have H2 : Hid _ := And.intro hI2 hB2
        clear hI hI2 hB2
        go_wp2
        exact ⟨⟨k + 1, by omega, by go_num, H2.out.1, H2.out.2⟩, by simp [intOf]; omega⟩
      · by_cases h2 : hi < o.kind
        · have hI2 := HK.out _ _ _ _ (HA.out _ _ _ _ (.cells (opC o) 37) hI)
          have hB2 := hB.alloc (Nat.le_of_lt_succ (Nat.lt_succ_of_le hB.size)) (.cells (opC o) 37)
          unfold opC at hI2 hB2
          have H2 : Hid _ := And.intro hI2 hB2
          clear hI hI2 hB2
          go_wp2
          exact ⟨⟨k + 1, by omega, by go_num, H2.out.1, H2.out.2⟩, by simp [intOf]; omega⟩
        · have hst := HT.out k w.heap.size w1.heap.size k (wr.alloc (.cells (opC o) 37)) hlt (by rw [ho]; omega) (by rw [ho]; omega) (by have := hB.size; simp; omega) hlt (HA.out _ _ _ _ _ hI)
          rw [ho] at hst
          unfold ptr opC at hst
          have HS : Hid _ := hst
          have hB2 := hB.alloc (Nat.le_of_lt_succ (Nat.lt_succ_of_le hB.size)) (.cells (opC o) 37)
          unfold opC at hB2
          have H2 : Hid _ := hB2
          clear hst hB2
          go_wp2_with fail
          refine Calls.mono HS.out ?_
          rintro e w2 ⟨rfl, hI2, hB2⟩
          have H3 : Hid _ := And.intro hI2 (H2.out.trans hB2)
          clear hI hI2 hB2
          go_wp2
          exact ⟨⟨k + 1, by omega, by go_num, H3.out.1, H3.out.2⟩, by simp [intOf]; omega⟩
    · go_wp2
      go_ret
      exact ⟨rfl, hB⟩
set_option maxRecDepth 100000 in
set_option maxHeartbeats 4000000 in
theorem plays_nil (lo hi : Int) (w : World)
    (hbeg : ∀ W, Calls Tryz.prog 5 #[.int .i64 lo, .int .i64 hi] W fun e w' => e = .returned (.bool true) ∧ Below W.heap.size W w') :
    Calls Tryz.prog 4 #[.slice none 0 0, .int .i64 lo, .int .i64 hi] w fun e w' => e = .returned (.bool true) ∧ Below w.heap.size w w' := by
  have HB : Hid _ := hbeg
  clear hbeg
  go_enter Tryz.func4, Tryz.ntmps4
  go_wp2_with fail
  refine (HB.out _).mono ?_
  rintro e w1 ⟨rfl, b1⟩
  go_wp2
  go_loopw [9] (fun i wr => i = .int .i64 0 ∧ Below w.heap.size w wr) (fun _ _ => 0)
  case atStart => exact ⟨rfl, b1.alloc b1.size _⟩
  case round =>
    obtain ⟨rfl, hB⟩ := hrel
    go_wp2
    go_ret
    exact ⟨rfl, hB⟩
end Go.Proofs.YtgalgjmhdbncbabGreat
