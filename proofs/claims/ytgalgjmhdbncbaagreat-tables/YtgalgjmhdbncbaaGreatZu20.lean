import Derived.Test.YtgalgjmhdbncbaaGreatZu04
namespace Go.Proofs.YtgalgjmhdbncbaaGreat
open Go.RowKit
attribute [local go_sem ↓] Go.wp_at_zero Go.wp_at_succ

structure OpA where
  kind : Int
  on : Int
  a : Int
  yes : Bool
  s : ByteArray
  t : ByteArray
  u : ByteArray
  v : ByteArray
  cs : Int
  ca : Int
  cm : Int
  ra : Int
  ri : Int
  rn : ByteArray
  rb : ByteArray
  rt : ByteArray
def opC (o : OpA) : Array Value := #[.int .i64 o.kind, .int .i64 o.on, .int .i64 o.a, .bool o.yes, .string o.s, .string o.t, .string o.u, .string o.v, .int .i64 o.cs, .int .i64 o.ca, .int .i64 o.cm, .int .i64 o.ra, .int .i64 o.ri, .string o.rn, .string o.rb, .string o.rt]
set_option maxHeartbeats 1000000 in
theorem lnum_any (n : Int) (w : World) : Calls Tryz.prog 62 #[.int .i64 n] w fun e w' => e = .returned (.int .i64 n) ∧ w' = w := by
  go_enter Tryz.func62, Tryz.ntmps62
  go_wp2
  go_ret
  exact ⟨rfl, rfl⟩
structure StoB (w : World) (gx gr gc : Nat) (S : Sto) (R : RSt) : Prop where
  p : StoP w gx S
  r : StoR w gr gc S R
  l : S.left ≤ 9223372036854775807
theorem StoB.fr {w w' : World} {L : List Nat} {gx gr gc : Nat} {S : Sto} {R : RSt} (h : StoB w gx gr gc S R) (hf : Fr L w w') (h1 : gx ∉ L) (h2 : gr ∉ L) (h3 : gc ∉ L) : StoB w' gx gr gc S R := ⟨Row.fr h.p hf h1, h.r.fr hf h2 h3, h.l⟩
theorem StoB.ne {w : World} {gx gr gc : Nat} {S : Sto} {R : RSt} (h : StoB w gx gr gc S R) : gx ≠ gr ∧ gx ≠ gc ∧ gr ≠ gc := ⟨Row.ne h.p h.r.r (by decide), Row.ne h.p h.r.c (by decide), h.r.ne⟩
theorem StoB.lt {w : World} {gx gr gc : Nat} {S : Sto} {R : RSt} (h : StoB w gx gr gc S R) : gx < w.heap.size ∧ gr < w.heap.size ∧ gc < w.heap.size := ⟨Row.lt h.p, Row.lt h.r.r, Row.lt h.r.c⟩
def storedM (o : OpA) (S : Sto) : Sto := if o.kind = 12 then wroteM S o.a o.s else if o.kind = 13 then interM S o.a o.yes else S
def Stored (w w' : World) (gx gr gc : Nat) (S : Sto) (R : RSt) (o : OpA) : Prop := ∃ S' R', StoB w' gx gr gc S' R' ∧ S'.tab = S.tab ∧ R'.user = R.user ∧ R'.tables = R.tables ∧ R'.writes ≤ R.writes + 1 ∧ Fr [gx, gr, gc] w w' ∧ S' = storedM o S
set_option maxRecDepth 100000 in
set_option maxHeartbeats 4000000 in
theorem stored_cell (gx gr gc : Nat) (S : Sto) (R : RSt) (o : OpA) (hk : o.kind = 11) (w : World) (h : StoB w gx gr gc S R) :
    Calls Tryz.prog 29 #[.agg #[ptr gx, ptr gr], .agg (opC o)] w fun e w' => e = .returned (.bool true) ∧ Stored w w' gx gr gc S R o := by
  unfold opC ptr
  rw [hk]
  have c1 := fun w h => cell_any gx S o.a w h
  have c2 := fun w h => refCell_any gr gc S R o.a w h
  unfold ptr at c1 c2
  obtain ⟨v, c, e⟩ : ∃ v c, cellM S o.a = (v, c) := ⟨_, _, rfl⟩
  rw [e] at c1 c2
  have C1 : Hid _ := c1
  have C2 : Hid _ := c2
  clear c1 c2 e
  have hp := h.p
  have hr := h.r
  go_enter Tryz.func29, Tryz.ntmps29
  go_wp2_with fail
  refine (C1.out _ (Row.alloc (Row.alloc hp _) _)).mono ?_
  rintro e w1 ⟨rfl, hw⟩
  subst hw
  go_wp2_with fail
  refine (C2.out _ ⟨(hr.r.alloc _).alloc _, (hr.c.alloc _).alloc _, hr.left⟩).mono ?_
  rintro e w1 ⟨rfl, hw⟩
  rw [hw]
  go_wp2_with fail
  refine (lnum_any c _).mono ?_
  rintro e w2 ⟨rfl, hw⟩
  rw [hw]
  go_wp2
  go_ret
  have hf : Fr [gx, gr, gc] w ((w.alloc (.cells #[.pointer (some ⟨gx, 0, none⟩), .pointer (some ⟨gr, 0, none⟩)] 77)).alloc (.cells (opC o) 54)) := ((Fr.refl _ _).alloc _).alloc _
  unfold opC at hf
  rw [hk] at hf
  exact ⟨rfl, S, R, ⟨(Row.alloc (Row.alloc hp _) _), ⟨(hr.r.alloc _).alloc _, (hr.c.alloc _).alloc _, hr.left⟩, h.l⟩, rfl, rfl, rfl, by omega, hf, by unfold storedM; rw [hk]; rfl⟩
def vtC (gx gr : Nat) : Array Value := #[.pointer (some ⟨gx, 0, none⟩), .pointer (some ⟨gr, 0, none⟩)]
theorem StoB.alloc {w : World} {gx gr gc : Nat} {S : Sto} {R : RSt} (h : StoB w gx gr gc S R) (o : Obj) : StoB (w.alloc o) gx gr gc S R := ⟨Row.alloc h.p o, ⟨h.r.r.alloc o, h.r.c.alloc o, h.r.left⟩, h.l⟩
theorem keepRow {w w1 : World} {L : List Nat} {g : Nat} {cs : Array Value} {t : TypeId} (hf : Fr L w w1) (h : w.heap[g]? = some (.cells cs t (0, 0))) (hg : g ∉ L) : w1.heap[g]? = some (.cells cs t (0, 0)) := by
  rw [hf.block g _ hg]; exact h
  rcases Nat.lt_or_ge g w.heap.size with hlt | hge
  · exact hlt
  · rw [Array.getElem?_eq_none hge] at h; cases h
theorem cells2 {w : World} {g : Nat} {t : TypeId} {v0 v1 : Value} (h : w.heap[g]? = some (.cells #[v0, v1] t (0, 0))) : w.cell? ⟨g, 0, none⟩ = some v0 ∧ w.cell? ⟨g, 1, none⟩ = some v1 := by
  refine ⟨?_, ?_⟩
  · rw [cell_of_row _ _ 0 _ _ _ h]; rfl
  · rw [cell_of_row _ _ 1 _ _ _ h]; rfl
theorem cellsO {w : World} {g : Nat} {o : OpA} (h : w.heap[g]? = some (.cells (opC o) 54 (0, 0))) : w.cell? ⟨g, 0, none⟩ = some (.int .i64 o.kind) ∧ w.cell? ⟨g, 1, none⟩ = some (.int .i64 o.on) ∧ w.cell? ⟨g, 2, none⟩ = some (.int .i64 o.a) ∧ w.cell? ⟨g, 3, none⟩ = some (.bool o.yes) ∧
    w.cell? ⟨g, 4, none⟩ = some (.string o.s) ∧ w.cell? ⟨g, 5, none⟩ = some (.string o.t) := by
  refine ⟨?_, ?_, ?_, ?_, ?_, ?_⟩
  · rw [cell_of_row _ _ 0 _ _ _ h]; rfl
  · rw [cell_of_row _ _ 1 _ _ _ h]; rfl
  · rw [cell_of_row _ _ 2 _ _ _ h]; rfl
  · rw [cell_of_row _ _ 3 _ _ _ h]; rfl
  · rw [cell_of_row _ _ 4 _ _ _ h]; rfl
  · rw [cell_of_row _ _ 5 _ _ _ h]; rfl
set_option maxRecDepth 100000 in
set_option maxHeartbeats 4000000 in
theorem stored_write (gx gr gc : Nat) (S : Sto) (R : RSt) (o : OpA) (hk : o.kind = 12) (hw : R.writes < 4611686018427387904) (w : World) (h : StoB w gx gr gc S R) :
    Calls Tryz.prog 29 #[.agg #[ptr gx, ptr gr], .agg (opC o)] w fun e w' => e = .returned (.bool true) ∧ Stored w w' gx gr gc S R o := by
  have c1 := fun w h' => write_any gx S o.a o.s h.l w h'
  have c2 := fun w h => refWrite_any gr gc S R o.a o.s hw w h
  unfold ptr at c1 c2
  generalize hv : writeM S o.a o.s = c at c1 c2
  have hl : (wroteM S o.a o.s).left ≤ 9223372036854775807 := by
    have := h.l
    unfold wroteM
    split
    · omega
    · split
      · omega
      · dsimp only; omega
  have ht : (wroteM S o.a o.s).tab = S.tab := by
    unfold wroteM
    split
    · rfl
    · split <;> rfl
  have hR : (wroteR o.a o.s R).user = R.user ∧ (wroteR o.a o.s R).tables = R.tables ∧ (wroteR o.a o.s R).writes ≤ R.writes + 1 := by
    unfold wroteR
    split
    · exact ⟨rfl, rfl, by omega⟩
    · split
      · exact ⟨rfl, rfl, by omega⟩
      · exact ⟨rfl, rfl, by dsimp only; omega⟩
  have C1 : Hid _ := c1
  have C2 : Hid _ := c2
  have hs : wroteM S o.a o.s = storedM o S := by unfold storedM; rw [if_pos hk]
  have HX : Hid _ := And.intro hl (And.intro ht (And.intro hs hR))
  generalize wroteM S o.a o.s = S2 at *
  generalize wroteR o.a o.s R = R2 at *
  clear c1 c2 hl ht hR hv hw hs
  have HO : Hid _ := hk
  have hn := h.ne
  have hlt := h.lt
  unfold ptr opC
  rw [hk]
  clear hk
  go_enter Tryz.func29, Tryz.ntmps29
  go_wp2_with fail
  refine (C1.out _ (h.alloc _ |>.alloc _).p).mono ?_
  rintro e w1 ⟨rfl, hp1, hc1⟩
  have hf : Fr [gx, gr, gc] w ((w.alloc (.cells (vtC gx gr) 77)).alloc (.cells (opC o) 54)) := ((Fr.refl _ _).alloc _).alloc _
  have r0 : ((w.alloc (.cells (vtC gx gr) 77)).alloc (.cells (opC o) 54)).heap[w.heap.size]? = some (.cells (vtC gx gr) 77 (0, 0)) := heap_of_old _ _ _ _ (by simp) (heap_of_new _ _ _ rfl)
  have r1 : ((w.alloc (.cells (vtC gx gr) 77)).alloc (.cells (opC o) 54)).heap[w.heap.size + 1]? = some (.cells (opC o) 54 (0, 0)) := heap_of_new _ _ _ (by simp)
  have hr1 := ((h.alloc (.cells (vtC gx gr) 77)).alloc (.cells (opC o) 54)).r
  have hc1' : Chg gx ((w.alloc (.cells (vtC gx gr) 77)).alloc (.cells (opC o) 54)) w1 := by unfold vtC opC; rw [HO.out]; exact hc1
  have F1 := Fr.of_chg (L := [gx]) hc1' (by simp)
  have q0 := keepRow F1 r0 (by simp; omega)
  have q1 := keepRow F1 r1 (by simp; omega)
  have hr2 := hr1.fr F1 (by simp; omega) (by simp; omega)
  have F2 := hf.trans (F1.sub (by simp))
  clear hf r0 r1 hr1 hc1 hc1' F1 C1
  have s1 := F2.size
  unfold vtC at q0
  obtain ⟨y0, y1⟩ := cells2 q0
  obtain ⟨z0, z1, z2, z3, z4, z5⟩ := cellsO q1
  clear q0 q1
  go_wp2_with fail
  refine (C2.out _ hr2).mono ?_
  rintro e w2 ⟨rfl, hr3, F3⟩
  have hp2 : StoP w2 gx S2 := Row.fr hp1 F3 (by simp; omega)
  have F4 := F2.trans (F3.sub (L' := [gx, gr, gc]) (by simp))
  clear F3 F2 C2 y0 y1 z0 z1 z2 z3 z4 z5
  go_wp2_with fail
  refine (lnum_any c _).mono ?_
  rintro e w3 ⟨rfl, hw3⟩
  rw [hw3]
  go_wp2
  go_ret
  exact ⟨rfl, S2, R2, ⟨hp2, hr3, HX.out.1⟩, HX.out.2.1, HX.out.2.2.2.1, HX.out.2.2.2.2.1, HX.out.2.2.2.2.2, F4, HX.out.2.2.1⟩
set_option maxRecDepth 100000 in
set_option maxHeartbeats 4000000 in
theorem stored_inter (gx gr gc : Nat) (S : Sto) (R : RSt) (o : OpA) (hk : o.kind = 13) (ha : o.a ≤ 9223372036854775807) (w : World) (h : StoB w gx gr gc S R) :
    Calls Tryz.prog 29 #[.agg #[ptr gx, ptr gr], .agg (opC o)] w fun e w' => e = .returned (.bool true) ∧ Stored w w' gx gr gc S R o := by
  have c1 := fun w h' => interrupt_any gx S o.a o.yes w h'
  have c2 := fun w h => refInterrupt_any gr gc S R o.a o.yes w h
  unfold ptr at c1 c2
  generalize hv : (if o.a < 0 then (1 : Int) else 0) = c at c1 c2
  have hl : (interM S o.a o.yes).left ≤ 9223372036854775807 := by
    have := h.l
    unfold interM
    split
    · omega
    · dsimp only; omega
  have ht : (interM S o.a o.yes).tab = S.tab := by
    unfold interM
    split <;> rfl
  have hR : (interR o.a R).user = R.user ∧ (interR o.a R).tables = R.tables ∧ (interR o.a R).writes ≤ R.writes + 1 := by
    unfold interR
    split
    · exact ⟨rfl, rfl, by omega⟩
    · exact ⟨rfl, rfl, by dsimp only; omega⟩
  have C1 : Hid _ := c1
  have C2 : Hid _ := c2
  have hs : interM S o.a o.yes = storedM o S := by unfold storedM; rw [hk]; rfl
  have HX : Hid _ := And.intro hl (And.intro ht (And.intro hs hR))
  generalize interM S o.a o.yes = S2 at *
  generalize interR o.a R = R2 at *
  clear c1 c2 hl ht hR hv ha hs
  have HO : Hid _ := hk
  have hn := h.ne
  have hlt := h.lt
  unfold ptr opC
  rw [hk]
  clear hk
  go_enter Tryz.func29, Tryz.ntmps29
  go_wp2_with fail
  refine (C1.out _ (h.alloc _ |>.alloc _).p).mono ?_
  rintro e w1 ⟨rfl, hp1, hc1⟩
  have hf : Fr [gx, gr, gc] w ((w.alloc (.cells (vtC gx gr) 77)).alloc (.cells (opC o) 54)) := ((Fr.refl _ _).alloc _).alloc _
  have r0 : ((w.alloc (.cells (vtC gx gr) 77)).alloc (.cells (opC o) 54)).heap[w.heap.size]? = some (.cells (vtC gx gr) 77 (0, 0)) := heap_of_old _ _ _ _ (by simp) (heap_of_new _ _ _ rfl)
  have r1 : ((w.alloc (.cells (vtC gx gr) 77)).alloc (.cells (opC o) 54)).heap[w.heap.size + 1]? = some (.cells (opC o) 54 (0, 0)) := heap_of_new _ _ _ (by simp)
  have hr1 := ((h.alloc (.cells (vtC gx gr) 77)).alloc (.cells (opC o) 54)).r
  have hc1' : Chg gx ((w.alloc (.cells (vtC gx gr) 77)).alloc (.cells (opC o) 54)) w1 := by unfold vtC opC; rw [HO.out]; exact hc1
  have F1 := Fr.of_chg (L := [gx]) hc1' (by simp)
  have q0 := keepRow F1 r0 (by simp; omega)
  have q1 := keepRow F1 r1 (by simp; omega)
  have hr2 := hr1.fr F1 (by simp; omega) (by simp; omega)
  have F2 := hf.trans (F1.sub (by simp))
  clear hf r0 r1 hr1 hc1 hc1' F1 C1
  have s1 := F2.size
  unfold vtC at q0
  obtain ⟨y0, y1⟩ := cells2 q0
  obtain ⟨z0, z1, z2, z3, z4, z5⟩ := cellsO q1
  clear q0 q1
  go_wp2_with fail
  refine (C2.out _ hr2).mono ?_
  rintro e w2 ⟨rfl, hr3, hc3⟩
  have F3 := Fr.of_chg (L := [gr]) hc3 (by simp)
  have hp2 : StoP w2 gx S2 := Row.fr hp1 F3 (by simp; omega)
  have F4 := F2.trans (F3.sub (L' := [gx, gr, gc]) (by simp))
  clear F3 F2 C2 y0 y1 z0 z1 z2 z3 z4 z5
  go_wp2_with fail
  refine (lnum_any c _).mono ?_
  rintro e w3 ⟨rfl, hw3⟩
  rw [hw3]
  go_wp2
  go_ret
  exact ⟨rfl, S2, R2, ⟨hp2, hr3, HX.out.1⟩, HX.out.2.1, HX.out.2.2.2.1, HX.out.2.2.2.2.1, HX.out.2.2.2.2.2, F4, HX.out.2.2.1⟩
set_option maxRecDepth 100000 in
set_option maxHeartbeats 4000000 in
theorem stored_else (gx gr gc : Nat) (S : Sto) (R : RSt) (o : OpA) (h1 : o.kind ≠ 11) (h2 : o.kind ≠ 12) (h3 : o.kind ≠ 13) (w : World) (h : StoB w gx gr gc S R) :
    Calls Tryz.prog 29 #[.agg #[ptr gx, ptr gr], .agg (opC o)] w fun e w' => e = .returned (.bool true) ∧ Stored w w' gx gr gc S R o := by
  have n2 := h2
  have n3 := h3
  have e1 : (o.kind == 11) = false := by rw [beq_eq_false_iff_ne]; exact h1
  have e2 : (o.kind == 12) = false := by rw [beq_eq_false_iff_ne]; exact h2
  have e3 : (o.kind == 13) = false := by rw [beq_eq_false_iff_ne]; exact h3
  have hf : Fr [gx, gr, gc] w ((w.alloc (.cells (vtC gx gr) 77)).alloc (.cells (opC o) 54)) := ((Fr.refl _ _).alloc _).alloc _
  have hb := (h.alloc (.cells (vtC gx gr) 77)).alloc (.cells (opC o) 54)
  unfold vtC opC at hf hb
  unfold ptr opC
  clear h1 h2 h3
  go_enter Tryz.func29, Tryz.ntmps29
  go_wp2
  go_ret
  exact ⟨rfl, S, R, hb, rfl, rfl, rfl, by omega, hf, by unfold storedM; rw [if_neg n2, if_neg n3]⟩
theorem stored_any (gx gr gc : Nat) (S : Sto) (R : RSt) (o : OpA) (ha : o.a ≤ 9223372036854775807) (hw : R.writes < 4611686018427387904) (w : World) (h : StoB w gx gr gc S R) :
    Calls Tryz.prog 29 #[.agg #[ptr gx, ptr gr], .agg (opC o)] w fun e w' => e = .returned (.bool true) ∧ Stored w w' gx gr gc S R o := by
  by_cases h1 : o.kind = 11
  · exact stored_cell gx gr gc S R o h1 w h
  by_cases h2 : o.kind = 12
  · exact stored_write gx gr gc S R o h2 hw w h
  by_cases h3 : o.kind = 13
  · exact stored_inter gx gr gc S R o h3 ha w h
  exact stored_else gx gr gc S R o h1 h2 h3 w h
end Go.Proofs.YtgalgjmhdbncbaaGreat
