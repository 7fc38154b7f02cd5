import Derived.Test.YtgalgjmhdbncbaaGreatZt02
import Derived.Test.YtgalgjmhdbncbaaGreatZt00
import Derived.Test.YtgalgjmhdbncbaaGreatZt07
import Derived.Test.YtgalgjmhdbncbaaGreatZt08
import Derived.Deep.RegionHeld
namespace Go.Proofs.YtgalgjmhdbncbaaGreat
open Go.RowKit
attribute [local go_sem ↓] Go.wp_at_zero Go.wp_at_succ

structure OpA where
  kind : Int
  on : Int
  a : Int
  yes : Bool
  s : ByteArray
  t : ByteArray
  u : ByteArray
  v : ByteArray
  cs : Int
  ca : Int
  cm : Int
  ra : Int
  ri : Int
  rn : ByteArray
  rb : ByteArray
  rt : ByteArray
def opC (o : OpA) : Array Value := #[.int .i64 o.kind, .int .i64 o.on, .int .i64 o.a, .bool o.yes, .string o.s, .string o.t, .string o.u, .string o.v, .int .i64 o.cs, .int .i64 o.ca, .int .i64 o.cm, .int .i64 o.ra, .int .i64 o.ri, .string o.rn, .string o.rb, .string o.rt]
set_option maxHeartbeats 1000000 in
theorem lnum_any (n : Int) (w : World) : Calls Tryz.prog 62 #[.int .i64 n] w fun e w' => e = .returned (.int .i64 n) ∧ w' = w := by
  go_enter Tryz.func62, Tryz.ntmps62
  go_wp2
  go_ret
  exact ⟨rfl, rfl⟩
structure StoB (w : World) (gx gr gc : Nat) (S : Sto) (R : RSt) : Prop where
  p : StoP w gx S
  r : StoR w gr gc S R
  l : S.left ≤ 9223372036854775807
theorem StoB.fr {w w' : World} {L : List Nat} {gx gr gc : Nat} {S : Sto} {R : RSt} (h : StoB w gx gr gc S R) (hf : Fr L w w') (h1 : gx ∉ L) (h2 : gr ∉ L) (h3 : gc ∉ L) : StoB w' gx gr gc S R := ⟨Row.fr h.p hf h1, h.r.fr hf h2 h3, h.l⟩
theorem StoB.ne {w : World} {gx gr gc : Nat} {S : Sto} {R : RSt} (h : StoB w gx gr gc S R) : gx ≠ gr ∧ gx ≠ gc ∧ gr ≠ gc := ⟨Row.ne h.p h.r.r (by decide), Row.ne h.p h.r.c (by decide), h.r.ne⟩
theorem StoB.lt {w : World} {gx gr gc : Nat} {S : Sto} {R : RSt} (h : StoB w gx gr gc S R) : gx < w.heap.size ∧ gr < w.heap.size ∧ gc < w.heap.size := ⟨Row.lt h.p, Row.lt h.r.r, Row.lt h.r.c⟩
def storedM (o : OpA) (S : Sto) : Sto := if o.kind = 12 then wroteM S o.a o.s else if o.kind = 13 then interM S o.a o.yes else S
def Stored (w w' : World) (gx gr gc : Nat) (S : Sto) (R : RSt) (o : OpA) : Prop := ∃ S' R', StoB w' gx gr gc S' R' ∧ S'.tab = S.tab ∧ R'.user = R.user ∧ R'.tables = R.tables ∧ R'.writes ≤ R.writes + 1 ∧ Fr [gx, gr, gc] w w' ∧ S' = storedM o S
set_option maxRecDepth 100000 in
set_option maxHeartbeats 4000000 in
theorem stored_cell (gx gr gc : Nat) (S : Sto) (R : RSt) (o : OpA) (hk : o.kind = 11) (w : World) (h : StoB w gx gr gc S R) :
    Calls Tryz.prog 29 #[.agg #[ptr gx, ptr gr], .agg (opC o)] w fun e w' => e = .returned (.bool true) ∧ Stored w w' gx gr gc S R o := by
  unfold opC ptr
  rw [hk]
  have c1 := fun w h => cell_any gx S o.a w h
  have c2 := fun w h => refCell_any gr gc S R o.a w h
  unfold ptr at c1 c2
  obtain ⟨v, c, e⟩ : ∃ v c, cellM S o.a = (v, c) := ⟨_, _, rfl⟩
  rw [e] at c1 c2
  have C1 : Hid _ := c1
  have C2 : Hid _ := c2
  clear c1 c2 e
  have hp := h.p
  have hr := h.r
  go_enter Tryz.func29, Tryz.ntmps29
  go_wp2_with fail
  refine (C1.out _ (Row.alloc (Row.alloc hp _) _)).mono ?_
  rintro e w1 ⟨rfl, hw⟩
  subst hw
  go_wp2_with fail
  refine (C2.out _ ⟨(hr.r.alloc _).alloc _, (hr.c.alloc _).alloc _, hr.left⟩).mono ?_
  rintro e w1 ⟨rfl, hw⟩
  rw [hw]
  go_wp2_with fail
  refine (lnum_any c _).mono ?_
  rintro e w2 ⟨rfl, hw⟩
  rw [hw]
  go_wp2
  go_ret
  have hf : Fr [gx, gr, gc] w ((w.alloc (.cells #[.pointer (some ⟨gx, 0, none⟩), .pointer (some ⟨gr, 0, none⟩)] 77)).alloc (.cells (opC o) 54)) := ((Fr.refl _ _).alloc _).alloc _
  unfold opC at hf
  rw [hk] at hf
  exact ⟨rfl, S, R, ⟨(Row.alloc (Row.alloc hp _) _), ⟨(hr.r.alloc _).alloc _, (hr.c.alloc _).alloc _, hr.left⟩, h.l⟩, rfl, rfl, rfl, by omega, hf, by unfold storedM; rw [hk]; rfl⟩
def vtC (gx gr : Nat) : Array Value := #[.pointer (some ⟨gx, 0, none⟩), .pointer (some ⟨gr, 0, none⟩)]
theorem StoB.alloc {w : World} {gx gr gc : Nat} {S : Sto} {R : RSt} (h : StoB w gx gr gc S R) (o : Obj) : StoB (w.alloc o) gx gr gc S R := ⟨Row.alloc h.p o, ⟨h.r.r.alloc o, h.r.c.alloc o, h.r.left⟩, h.l⟩
theorem keepRow {w w1 : World} {L : List Nat} {g : Nat} {cs : Array Value} {t : TypeId} (hf : Fr L w w1) (h : w.heap[g]? = some (.cells cs t (0, 0))) (hg : g ∉ L) : w1.heap[g]? = some (.cells cs t (0, 0)) := by
  rw [hf.block g _ hg]; exact h
  rcases Nat.lt_or_ge g w.heap.size with hlt | hge
  · exact hlt
  · rw [Array.getElem?_eq_none hge] at h; cases h
theorem cells2 {w : World} {g : Nat} {t : TypeId} {v0 v1 : Value} (h : w.heap[g]? = some (.cells #[v0, v1] t (0, 0))) : w.cell? ⟨g, 0, none⟩ = some v0 ∧ w.cell? ⟨g, 1, none⟩ = some v1 := by
  refine ⟨?_, ?_⟩
  · rw [cell_of_row _ _ 0 _ _ _ h]; rfl
  · rw [cell_of_row _ _ 1 _ _ _ h]; rfl
theorem cellsO {w : World} {g : Nat} {o : OpA} (h : w.heap[g]? = some (.cells (opC o) 54 (0, 0))) : w.cell? ⟨g, 0, none⟩ = some (.int .i64 o.kind) ∧ w.cell? ⟨g, 1, none⟩ = some (.int .i64 o.on) ∧ w.cell? ⟨g, 2, none⟩ = some (.int .i64 o.a) ∧ w.cell? ⟨g, 3, none⟩ = some (.bool o.yes) ∧
    w.cell? ⟨g, 4, none⟩ = some (.string o.s) ∧ w.cell? ⟨g, 5, none⟩ = some (.string o.t) := by
  refine ⟨?_, ?_, ?_, ?_, ?_, ?_⟩
  · rw [cell_of_row _ _ 0 _ _ _ h]; rfl
  · rw [cell_of_row _ _ 1 _ _ _ h]; rfl
  · rw [cell_of_row _ _ 2 _ _ _ h]; rfl
  · rw [cell_of_row _ _ 3 _ _ _ h]; rfl
  · rw [cell_of_row _ _ 4 _ _ _ h]; rfl
  · rw [cell_of_row _ _ 5 _ _ _ h]; rfl
set_option maxRecDepth 100000 in
set_option maxHeartbeats 4000000 in
theorem stored_write (gx gr gc : Nat) (S : Sto) (R : RSt) (o : OpA) (hk : o.kind = 12) (hw : R.writes < 4611686018427387904) (w : World) (h : StoB w gx gr gc S R) :
    Calls Tryz.prog 29 #[.agg #[ptr gx, ptr gr], .agg (opC o)] w fun e w' => e = .returned (.bool true) ∧ Stored w w' gx gr gc S R o := by
  have c1 := fun w h' => write_any gx S o.a o.s h.l w h'
  have c2 := fun w h => refWrite_any gr gc S R o.a o.s hw w h
  unfold ptr at c1 c2
  generalize hv : writeM S o.a o.s = c at c1 c2
  have hl : (wroteM S o.a o.s).left ≤ 9223372036854775807 := by
    have := h.l
    unfold wroteM
    split
    · omega
    · split
      · omega
      · dsimp only; omega
  have ht : (wroteM S o.a o.s).tab = S.tab := by
    unfold wroteM
    split
    · rfl
    · split <;> rfl
  have hR : (wroteR o.a o.s R).user = R.user ∧ (wroteR o.a o.s R).tables = R.tables ∧ (wroteR o.a o.s R).writes ≤ R.writes + 1 := by
    unfold wroteR
    split
    · exact ⟨rfl, rfl, by omega⟩
    · split
      · exact ⟨rfl, rfl, by omega⟩
      · exact ⟨rfl, rfl, by dsimp only; omega⟩
  have C1 : Hid _ := c1
  have C2 : Hid _ := c2
  have hs : wroteM S o.a o.s = storedM o S := by unfold storedM; rw [if_pos hk]
  have HX : Hid _ := And.intro hl (And.intro ht (And.intro hs hR))
  generalize wroteM S o.a o.s = S2 at *
  generalize wroteR o.a o.s R = R2 at *
  clear c1 c2 hl ht hR hv hw hs
  have HO : Hid _ := hk
  have hn := h.ne
  have hlt := h.lt
  unfold ptr opC
  rw [hk]
  clear hk
  go_enter Tryz.func29, Tryz.ntmps29
  go_wp2_with fail
  refine (C1.out _ (h.alloc _ |>.alloc _).p).mono ?_
  rintro e w1 ⟨rfl, hp1, hc1⟩
  have hf : Fr [gx, gr, gc] w ((w.alloc (.cells (vtC gx gr) 77)).alloc (.cells (opC o) 54)) := ((Fr.refl _ _).alloc _).alloc _
  have r0 : ((w.alloc (.cells (vtC gx gr) 77)).alloc (.cells (opC o) 54)).heap[w.heap.size]? = some (.cells (vtC gx gr) 77 (0, 0)) := heap_of_old _ _ _ _ (by simp) (heap_of_new _ _ _ rfl)
  have r1 : ((w.alloc (.cells (vtC gx gr) 77)).alloc (.cells (opC o) 54)).heap[w.heap.size + 1]? = some (.cells (opC o) 54 (0, 0)) := heap_of_new _ _ _ (by simp)
  have hr1 := ((h.alloc (.cells (vtC gx gr) 77)).alloc (.cells (opC o) 54)).r
  have hc1' : Chg gx ((w.alloc (.cells (vtC gx gr) 77)).alloc (.cells (opC o) 54)) w1 := by unfold vtC opC; rw [HO.out]; exact hc1
  have F1 := Fr.of_chg (L := [gx]) hc1' (by simp)
  have q0 := keepRow F1 r0 (by simp; omega)
  have q1 := keepRow F1 r1 (by simp; omega)
  have hr2 := hr1.fr F1 (by simp; omega) (by simp; omega)
  have F2 := hf.trans (F1.sub (by simp))
  clear hf r0 r1 hr1 hc1 hc1' F1 C1
  have s1 := F2.size
  unfold vtC at q0
  obtain ⟨y0, y1⟩ := cells2 q0
  obtain ⟨z0, z1, z2, z3, z4, z5⟩ := cellsO q1
  clear q0 q1
  go_wp2_with fail
  refine (C2.out _ hr2).mono ?_
  rintro e w2 ⟨rfl, hr3, F3⟩
  have hp2 : StoP w2 gx S2 := Row.fr hp1 F3 (by simp; omega)
  have F4 := F2.trans (F3.sub (L' := [gx, gr, gc]) (by simp))
  clear F3 F2 C2 y0 y1 z0 z1 z2 z3 z4 z5
  go_wp2_with fail
  refine (lnum_any c _).mono ?_
  rintro e w3 ⟨rfl, hw3⟩
  rw [hw3]
  go_wp2
  go_ret
  exact ⟨rfl, S2, R2, ⟨hp2, hr3, HX.out.1⟩, HX.out.2.1, HX.out.2.2.2.1, HX.out.2.2.2.2.1, HX.out.2.2.2.2.2, F4, HX.out.2.2.1⟩
set_option maxRecDepth 100000 in
set_option maxHeartbeats 4000000 in
theorem stored_inter (gx gr gc : Nat) (S : Sto) (R : RSt) (o : OpA) (hk : o.kind = 13) (ha : o.a ≤ 9223372036854775807) (w : World) (h : StoB w gx gr gc S R) :
    Calls Tryz.prog 29 #[.agg #[ptr gx, ptr gr], .agg (opC o)] w fun e w' => e = .returned (.bool true) ∧ Stored w w' gx gr gc S R o := by
  have c1 := fun w h' => interrupt_any gx S o.a o.yes w h'
  have c2 := fun w h => refInterrupt_any gr gc S R o.a o.yes w h
  unfold ptr at c1 c2
  generalize hv : (if o.a < 0 then (1 : Int) else 0) = c at c1 c2
  have hl : (interM S o.a o.yes).left ≤ 9223372036854775807 := by
    have := h.l
    unfold interM
    split
    · omega
    · dsimp only; omega
  have ht : (interM S o.a o.yes).tab = S.tab := by
    unfold interM
    split <;> rfl
  have hR : (interR o.a R).user = R.user ∧ (interR o.a R).tables = R.tables ∧ (interR o.a R).writes ≤ R.writes + 1 := by
    unfold interR
    split
    · exact ⟨rfl, rfl, by omega⟩
    · exact ⟨rfl, rfl, by dsimp only; omega⟩
  have C1 : Hid _ := c1
  have C2 : Hid _ := c2
  have hs : interM S o.a o.yes = storedM o S := by unfold storedM; rw [hk]; rfl
  have HX : Hid _ := And.intro hl (And.intro ht (And.intro hs hR))
  generalize interM S o.a o.yes = S2 at *
  generalize interR o.a R = R2 at *
  clear c1 c2 hl ht hR hv ha hs
  have HO : Hid _ := hk
  have hn := h.ne
  have hlt := h.lt
  unfold ptr opC
  rw [hk]
  clear hk
  go_enter Tryz.func29, Tryz.ntmps29
  go_wp2_with fail
  refine (C1.out _ (h.alloc _ |>.alloc _).p).mono ?_
  rintro e w1 ⟨rfl, hp1, hc1⟩
  have hf : Fr [gx, gr, gc] w ((w.alloc (.cells (vtC gx gr) 77)).alloc (.cells (opC o) 54)) := ((Fr.refl _ _).alloc _).alloc _
  have r0 : ((w.alloc (.cells (vtC gx gr) 77)).alloc (.cells (opC o) 54)).heap[w.heap.size]? = some (.cells (vtC gx gr) 77 (0, 0)) := heap_of_old _ _ _ _ (by simp) (heap_of_new _ _ _ rfl)
  have r1 : ((w.alloc (.cells (vtC gx gr) 77)).alloc (.cells (opC o) 54)).heap[w.heap.size + 1]? = some (.cells (opC o) 54 (0, 0)) := heap_of_new _ _ _ (by simp)
  have hr1 := ((h.alloc (.cells (vtC gx gr) 77)).alloc (.cells (opC o) 54)).r
  have hc1' : Chg gx ((w.alloc (.cells (vtC gx gr) 77)).alloc (.cells (opC o) 54)) w1 := by unfold vtC opC; rw [HO.out]; exact hc1
  have F1 := Fr.of_chg (L := [gx]) hc1' (by simp)
  have q0 := keepRow F1 r0 (by simp; omega)
  have q1 := keepRow F1 r1 (by simp; omega)
  have hr2 := hr1.fr F1 (by simp; omega) (by simp; omega)
  have F2 := hf.trans (F1.sub (by simp))
  clear hf r0 r1 hr1 hc1 hc1' F1 C1
  have s1 := F2.size
  unfold vtC at q0
  obtain ⟨y0, y1⟩ := cells2 q0
  obtain ⟨z0, z1, z2, z3, z4, z5⟩ := cellsO q1
  clear q0 q1
  go_wp2_with fail
  refine (C2.out _ hr2).mono ?_
  rintro e w2 ⟨rfl, hr3, hc3⟩
  have F3 := Fr.of_chg (L := [gr]) hc3 (by simp)
  have hp2 : StoP w2 gx S2 := Row.fr hp1 F3 (by simp; omega)
  have F4 := F2.trans (F3.sub (L' := [gx, gr, gc]) (by simp))
  clear F3 F2 C2 y0 y1 z0 z1 z2 z3 z4 z5
  go_wp2_with fail
  refine (lnum_any c _).mono ?_
  rintro e w3 ⟨rfl, hw3⟩
  rw [hw3]
  go_wp2
  go_ret
  exact ⟨rfl, S2, R2, ⟨hp2, hr3, HX.out.1⟩, HX.out.2.1, HX.out.2.2.2.1, HX.out.2.2.2.2.1, HX.out.2.2.2.2.2, F4, HX.out.2.2.1⟩
set_option maxRecDepth 100000 in
set_option maxHeartbeats 4000000 in
theorem stored_else (gx gr gc : Nat) (S : Sto) (R : RSt) (o : OpA) (h1 : o.kind ≠ 11) (h2 : o.kind ≠ 12) (h3 : o.kind ≠ 13) (w : World) (h : StoB w gx gr gc S R) :
    Calls Tryz.prog 29 #[.agg #[ptr gx, ptr gr], .agg (opC o)] w fun e w' => e = .returned (.bool true) ∧ Stored w w' gx gr gc S R o := by
  have n2 := h2
  have n3 := h3
  have e1 : (o.kind == 11) = false := by rw [beq_eq_false_iff_ne]; exact h1
  have e2 : (o.kind == 12) = false := by rw [beq_eq_false_iff_ne]; exact h2
  have e3 : (o.kind == 13) = false := by rw [beq_eq_false_iff_ne]; exact h3
  have hf : Fr [gx, gr, gc] w ((w.alloc (.cells (vtC gx gr) 77)).alloc (.cells (opC o) 54)) := ((Fr.refl _ _).alloc _).alloc _
  have hb := (h.alloc (.cells (vtC gx gr) 77)).alloc (.cells (opC o) 54)
  unfold vtC opC at hf hb
  unfold ptr opC
  clear h1 h2 h3
  go_enter Tryz.func29, Tryz.ntmps29
  go_wp2
  go_ret
  exact ⟨rfl, S, R, hb, rfl, rfl, rfl, by omega, hf, by unfold storedM; rw [if_neg n2, if_neg n3]⟩
theorem stored_any (gx gr gc : Nat) (S : Sto) (R : RSt) (o : OpA) (ha : o.a ≤ 9223372036854775807) (hw : R.writes < 4611686018427387904) (w : World) (h : StoB w gx gr gc S R) :
    Calls Tryz.prog 29 #[.agg #[ptr gx, ptr gr], .agg (opC o)] w fun e w' => e = .returned (.bool true) ∧ Stored w w' gx gr gc S R o := by
  by_cases h1 : o.kind = 11
  · exact stored_cell gx gr gc S R o h1 w h
  by_cases h2 : o.kind = 12
  · exact stored_write gx gr gc S R o h2 hw w h
  by_cases h3 : o.kind = 13
  · exact stored_inter gx gr gc S R o h3 ha w h
  exact stored_else gx gr gc S R o h1 h2 h3 w h
end Go.Proofs.YtgalgjmhdbncbaaGreat
namespace Go.Proofs.YtgalgjmhdbncbaaGreat
open Go.RowKit
attribute [local go_sem ↓] Go.wp_at_zero Go.wp_at_succ

def ofOk (s : ByteArray) : Prop := s.size = 0 ∨ (15 ≤ s.size ∧ sf s 0 = 107 ∧ HoldsC (rdC s 6))
def ofC (s : ByteArray) : Cl := if s.size = 0 then zCl else rdC s 6
theorem of_any (s : ByteArray) (hz : s.size ≤ maxLen) (w : World) : Calls Tryz.prog 33 #[.string s] w fun e w' => (∃ (c : Cl) (b : Bool), e = .returned (.tuple #[.agg (clA c), .bool b]) ∧ (b = true ↔ ofOk s) ∧ (b = true → c = ofC s)) ∧ Below w.heap.size w w' := by
  by_cases h0 : s.size = 0
  · have e := (empty_iff s).1 h0
    subst e
    refine Calls.mono (of_empty w) ?_
    rintro e w' ⟨rfl, b⟩
    exact ⟨⟨zCl, true, rfl, ⟨fun _ => .inl rfl, fun _ => rfl⟩, fun _ => rfl⟩, b⟩
  · by_cases h15 : s.size < 15
    · refine Calls.mono (of_short s h0 h15 w) ?_
      rintro e w' ⟨rfl, b⟩
      refine ⟨⟨zCl, false, rfl, ⟨fun h => by simp at h, fun h => ?_⟩, fun h => by simp at h⟩, b⟩
      rcases h with h | ⟨h, _⟩
      · exact absurd h h0
      · omega
    · by_cases hk : sf s 0 = 107
      · classical
        refine Calls.mono (of_read s (by omega) hz hk (decide (HoldsC (rdC s 6))) (by simp) w) ?_
        rintro e w' ⟨rfl, b⟩
        refine ⟨⟨rdC s 6, _, rfl, ⟨fun h => .inr ⟨by omega, hk, by simpa using h⟩, fun h => ?_⟩, fun _ => ?_⟩, b⟩
        · rcases h with h | ⟨_, _, h⟩
          · exact absurd h h0
          · simpa using h
        · unfold ofC; rw [if_neg h0]
      · refine Calls.mono (of_mark s (by omega) hz hk w) ?_
        rintro e w' ⟨rfl, b⟩
        refine ⟨⟨zCl, false, rfl, ⟨fun h => by simp at h, fun h => ?_⟩, fun h => by simp at h⟩, b⟩
        rcases h with h | ⟨_, h, _⟩
        · exact absurd h h0
        · exact absurd h hk
def zHd : Hd := ⟨zCl, 0⟩
def stH (S : Sto) (k j : Nat) : Hd := if j < k then ⟨ofC (S.cell j), (ofC (S.cell j)).res⟩ else zHd
def CellOk (S : Sto) (j : Nat) : Prop := ofOk (S.cell j) ∧ ((ofC (S.cell j)).st ≠ 0 → ∀ i, i < j → ¬ ((ofC (S.cell i)).st ≠ 0 ∧ (ofC (S.cell i)).id = (ofC (S.cell j)).id))
theorem bd92 (ps : Array (Nat × Value)) : Instr.build 92 ps = Bd 92 ps := rfl
theorem run_bd92 (sx : Nat) (w : World) : Sem.run Tryz.prog (Bd 92 #[(0, .pointer (some ⟨sx, 0, none⟩))]) w = .ok (.agg (arr 81 (tabF sx fun _ => zHd))) w := by kernel_rfl
theorem ldw82 (v : Value) : Instr.loadAt 82 v = LdT 82 v := rfl
theorem run_ldT82 (g off : Nat) (w : World) : Sem.run Tryz.prog (LdT 82 (.pointer (some ⟨g, off, none⟩))) w = ldN (blk w g) off 8 w (ldO Tryz.prog 82 g off w) := run_ldT 82 8 _ Tryz.underlying82 rfl (by kernel_rfl) g off w
def celF (S : Sto) (j : Nat) : Value := .string (S.cell j)
theorem ldN_sto (S : Sto) (w : World) (r : Result Value) : ldN (some (.cells (arr 11 (stoV S)) 84 (0, 0))) 0 8 w r = .ok (.agg (arr 8 (celF S))) w := by
  rw [ldN_mid 11 (stoV S) 84 0 8 w r (by omega)]
  have e : (arr 8 fun j => stoV S (0 + j)) = arr 8 (celF S) := by
    apply arr_congr
    intro j hj
    rw [Nat.zero_add]
    unfold stoV celF
    rw [if_pos hj]
  rw [e]
theorem ix82 (S : Sto) (w : World) : ∀ k : Nat, k < 8 → (Instr.index 82 (.agg (arr 8 (celF S))) (.int .i64 (k : Int))).run Tryz.prog w = .ok (.string (S.cell k)) w
  | 0, _ => by kernel_rfl
  | 1, _ => by kernel_rfl
  | 2, _ => by kernel_rfl
  | 3, _ => by kernel_rfl
  | 4, _ => by kernel_rfl
  | 5, _ => by kernel_rfl
  | 6, _ => by kernel_rfl
  | 7, _ => by kernel_rfl
  | n + 8, h => absurd h (by omega)
def setH (H : Nat → Hd) (k : Nat) (c : Cl) (j : Nat) : Hd := if j = k then ⟨c, c.res⟩ else H j
theorem tab_set10 {w : World} {g sx : Nat} {H : Nat → Hd} (h : TabP w g sx H) (k : Nat) (c : Cl) : TabP ((((((((((w.setCell ⟨g, 1 + k * 10, none⟩ (.int .i64 c.st)).setCell ⟨g, 1 + k * 10 + 1, none⟩ (.int .i64 c.alg)).setCell ⟨g, 1 + k * 10 + 2, none⟩ (.int .i64 c.id)).setCell ⟨g, 1 + k * 10 + 3, none⟩ (.string c.fix)).setCell ⟨g, 1 + k * 10 + 4, none⟩ (.int .i64 c.seals)).setCell ⟨g, 1 + k * 10 + 5, none⟩ (.int .i64 c.ahead)).setCell ⟨g, 1 + k * 10 + 6, none⟩ (.int .i64 c.most)).setCell ⟨g, 1 + k * 10 + 7, none⟩ (.int .i64 c.res)).setCell ⟨g, 1 + k * 10 + 8, none⟩ (.string c.key)).setCell ⟨g, 1 + k * 10 + 9, none⟩ (.int .i64 c.res)) g sx (setH H k c) := by
  refine Row.congr (Row.set (tab_set9 h k c) (1 + k * 10 + 9) _) (fun j hj => ?_)
  by_cases h0 : j = 0
  · subst h0
    rw [if_neg (by omega)]
    rfl
  · obtain ⟨q, r, hr, rfl⟩ : ∃ q r, r < 10 ∧ j = 1 + q * 10 + r := ⟨(j - 1) / 10, (j - 1) % 10, by omega, by omega⟩
    have e1 : ∀ H' : Nat → Hd, tabF sx H' (1 + q * 10 + r) = hdF (H' q) r := fun H' => by
      unfold tabF
      rw [if_neg h0, show (1 + q * 10 + r - 1) / 10 = q by omega, show (1 + q * 10 + r - 1) % 10 = r by omega]
    rw [e1, e1]
    unfold upd setH
    by_cases hq : q = k
    · subst hq
      rw [if_pos rfl, if_pos rfl]
      by_cases h9 : r = 9
      · subst h9; rw [if_pos rfl]; rfl
      · rw [if_neg (by omega)]; simp [hdF, h9]
    · rw [if_neg hq, if_neg hq, if_neg (by omega)]
theorem row_set10 {w : World} {g x n : Nat} {t : TypeId} {V : Nat → Value} (h : Row w x n t V) (hx : x ≠ g) (k : Nat) (c : Cl) : Row ((((((((((w.setCell ⟨g, 1 + k * 10, none⟩ (.int .i64 c.st)).setCell ⟨g, 1 + k * 10 + 1, none⟩ (.int .i64 c.alg)).setCell ⟨g, 1 + k * 10 + 2, none⟩ (.int .i64 c.id)).setCell ⟨g, 1 + k * 10 + 3, none⟩ (.string c.fix)).setCell ⟨g, 1 + k * 10 + 4, none⟩ (.int .i64 c.seals)).setCell ⟨g, 1 + k * 10 + 5, none⟩ (.int .i64 c.ahead)).setCell ⟨g, 1 + k * 10 + 6, none⟩ (.int .i64 c.most)).setCell ⟨g, 1 + k * 10 + 7, none⟩ (.int .i64 c.res)).setCell ⟨g, 1 + k * 10 + 8, none⟩ (.string c.key)).setCell ⟨g, 1 + k * 10 + 9, none⟩ (.int .i64 c.res)) x n t V := Row.other (row_set9 h hx k c) hx
theorem fr_set10 {w0 w : World} {g : Nat} {L : List Nat} (h : Fr L w0 w) (hg : w0.heap.size ≤ g) (k : Nat) (c : Cl) : Fr L w0 ((((((((((w.setCell ⟨g, 1 + k * 10, none⟩ (.int .i64 c.st)).setCell ⟨g, 1 + k * 10 + 1, none⟩ (.int .i64 c.alg)).setCell ⟨g, 1 + k * 10 + 2, none⟩ (.int .i64 c.id)).setCell ⟨g, 1 + k * 10 + 3, none⟩ (.string c.fix)).setCell ⟨g, 1 + k * 10 + 4, none⟩ (.int .i64 c.seals)).setCell ⟨g, 1 + k * 10 + 5, none⟩ (.int .i64 c.ahead)).setCell ⟨g, 1 + k * 10 + 6, none⟩ (.int .i64 c.most)).setCell ⟨g, 1 + k * 10 + 7, none⟩ (.int .i64 c.res)).setCell ⟨g, 1 + k * 10 + 8, none⟩ (.string c.key)).setCell ⟨g, 1 + k * 10 + 9, none⟩ (.int .i64 c.res)) :=
  Fr.setCell (Fr.setCell (Fr.setCell (Fr.setCell (Fr.setCell (Fr.setCell (Fr.setCell (Fr.setCell (Fr.setCell (Fr.setCell h (.inl hg) _) (.inl hg) _) (.inl hg) _) (.inl hg) _) (.inl hg) _) (.inl hg) _) (.inl hg) _) (.inl hg) _) (.inl hg) _) (.inl hg) _
attribute [local go_sem ↓] bd92 ldw82 al87 stw87
attribute [local go_sem] run_bd92 run_ldT82 ldN_sto run_al87 run_stT87 stN_cl blk_new blk_at blk_old blk_drew blk_setCell blk_setRow alloc_setRow
set_option maxRecDepth 100000 in
set_option maxHeartbeats 1000000 in
theorem start_nil (w : World) : Calls Tryz.prog 16 #[.pointer none] w fun e w' => e = .returned (.tuple #[.pointer none, .int .i64 1]) ∧ w' = w := by
  go_enter Tryz.func16, Tryz.ntmps16
  go_wp2
  go_ret2
  exact ⟨rfl, rfl⟩
structure LS (w W : World) (sx g : Nat) (S : Sto) (k : Nat) : Prop where
  s : StoP W sx { S with tab := none }
  t : TabP W g sx (stH S k)
  f : Fr [sx] w W
  ok : ∀ j, j < k → CellOk S j
theorem LS.below {w W W' : World} {sx g : Nat} {S : Sto} {k : Nat} (h : LS w W sx g S k) (hb : Below W.heap.size W W') : LS w W' sx g S k := ⟨Row.keep h.s hb (Row.lt h.s), Row.keep h.t hb (Row.lt h.t), h.f.trans (Fr.of_below [sx] hb (Nat.le_refl _)), h.ok⟩
theorem LS.alloc {w W : World} {sx g : Nat} {S : Sto} {k : Nat} (h : LS w W sx g S k) (o : Obj) : LS w (W.alloc o) sx g S k := ⟨Row.alloc h.s o, Row.alloc h.t o, h.f.alloc o, h.ok⟩
theorem LS.drew {w W : World} {sx g : Nat} {S : Sto} {k : Nat} (h : LS w W sx g S k) : LS w W.drew sx g S k := ⟨h.s, h.t, h.f.drew, h.ok⟩
theorem row_lit_set10 {w : World} {g x : Nat} {cs : Array Value} {t : TypeId} (h : w.heap[x]? = some (.cells cs t (0, 0))) (hx : x ≠ g) (k : Nat) (c : Cl) : ((((((((((w.setCell ⟨g, 1 + k * 10, none⟩ (.int .i64 c.st)).setCell ⟨g, 1 + k * 10 + 1, none⟩ (.int .i64 c.alg)).setCell ⟨g, 1 + k * 10 + 2, none⟩ (.int .i64 c.id)).setCell ⟨g, 1 + k * 10 + 3, none⟩ (.string c.fix)).setCell ⟨g, 1 + k * 10 + 4, none⟩ (.int .i64 c.seals)).setCell ⟨g, 1 + k * 10 + 5, none⟩ (.int .i64 c.ahead)).setCell ⟨g, 1 + k * 10 + 6, none⟩ (.int .i64 c.most)).setCell ⟨g, 1 + k * 10 + 7, none⟩ (.int .i64 c.res)).setCell ⟨g, 1 + k * 10 + 8, none⟩ (.string c.key)).setCell ⟨g, 1 + k * 10 + 9, none⟩ (.int .i64 c.res)).heap[x]? = some (.cells cs t (0, 0)) := by
  rw [heap_skip _ _ _ _ _ hx, heap_skip _ _ _ _ _ hx, heap_skip _ _ _ _ _ hx, heap_skip _ _ _ _ _ hx, heap_skip _ _ _ _ _ hx, heap_skip _ _ _ _ _ hx, heap_skip _ _ _ _ _ hx, heap_skip _ _ _ _ _ hx, heap_skip _ _ _ _ _ hx, heap_skip _ _ _ _ _ hx]
  exact h
set_option maxRecDepth 100000 in
set_option maxHeartbeats 8000000 in
theorem start_any (sx : Nat) (S : Sto) (hz : ∀ j, j < 8 → (S.cell j).size ≤ maxLen) (w : World) (hs : StoP w sx S) :
    Calls Tryz.prog 16 #[ptr sx] w fun e w' => (((∀ j, j < 8 → CellOk S j) ∧ ∃ g, w.heap.size ≤ g ∧ e = .returned (.tuple #[.pointer (some ⟨g, 0, none⟩), .int .i64 0]) ∧ StoP w' sx { S with tab := some g } ∧ TabP w' g sx (stH S 8)) ∨
      ((¬ ∀ j, j < 8 → CellOk S j) ∧ e = .returned (.tuple #[.pointer none, .int .i64 9]) ∧ StoP w' sx { S with tab := none })) ∧ Fr [sx] w w' := by
  have hlt := Row.lt hs
  have HZ : Hid _ := hz
  clear hz
  have S1 := StoP.putTab hs
  have f10 := Row.frozen hs 10
  have c10 := hs.tabAt
  have F1 : Fr [sx] w (w.setCell ⟨sx, 10, none⟩ (.pointer none)) := Fr.setCell (Fr.refl _ _) (.inr (by simp)) _
  have S2 : StoP ((w.setCell ⟨sx, 10, none⟩ (.pointer none)).alloc (.cells (arr 81 (tabF sx fun _ => zHd)) 92)) sx { S with tab := none } := Row.alloc S1 _
  have T2 : TabP ((w.setCell ⟨sx, 10, none⟩ (.pointer none)).alloc (.cells (arr 81 (tabF sx fun _ => zHd)) 92)) w.heap.size sx (stH S 0) := Row.new _ 81 92 _ _ (by simp)
  have L0 : LS w ((w.setCell ⟨sx, 10, none⟩ (.pointer none)).alloc (.cells (arr 81 (tabF sx fun _ => zHd)) 92)) sx w.heap.size S 0 := ⟨S2, T2, F1.alloc _, fun j hj => by omega⟩
  have q1 := heap_pos S1
  have HL : Hid _ := L0
  clear S1 S2 T2 L0 F1
  unfold ptr
  go_enter Tryz.func16, Tryz.ntmps16
  go_wp2
  obtain ⟨g, hg⟩ : ∃ g, w.heap.size = g := ⟨_, rfl⟩
  have hL0 := HL.out
  rw [hg] at hL0 ⊢
  clear HL q1 c10 f10 hs
  go_loopw [5, 6, 7, 8, 21] (fun _ _ _ _ i wr => ∃ k : Nat, k ≤ 8 ∧ i = .int .i64 k ∧ LS w wr sx g S k) (fun _ _ _ _ i _ => 8 - (intOf i).toNat)
  case atStart => exact ⟨0, by omega, rfl, hL0⟩
  case round =>
    clear hL0
    obtain ⟨k, hk, rfl, hL⟩ := hrel
    by_cases hk8 : k < 8
    · have ix : ∀ W, (Instr.index 82 (.agg (arr 8 (celF { S with tab := none }))) (.int .i64 (k : Int))).run Tryz.prog W = .ok (.string (S.cell k)) W := fun W => ix82 { S with tab := none } W k hk8
      have hof := fun W => of_any (S.cell k) (HZ.out k hk8) W
      have HOF : Hid _ := hof
      clear hof
      go_wp2_with fail
      refine (HOF.out _).mono ?_
      rintro e w1 ⟨⟨c, b, rfl, hb, hcc⟩, b1⟩
      have L1 := LS.below hL b1
      clear b1 hL
      have L2 := LS.alloc L1 (.cells (clA c) 87)
      have r2 : (w1.alloc (.cells (clA c) 87)).heap[w1.heap.size]? = some (.cells (clA c) 87 (0, 0)) := heap_of_new _ _ _ rfl
      unfold clA at L2 r2
      unfold clA clC
      cases b with
      | false =>
        have hbad : ¬ ∀ j, j < 8 → CellOk S j := fun h => by have := hb.2 (h k hk8).1; simp at this
        have HX : Hid _ := And.intro hbad (And.intro L2.s L2.f)
        clear hb hcc hbad L1 L2 r2
        go_wp2
        go_ret2
        exact ⟨.inr ⟨HX.out.1, rfl, HX.out.2.1⟩, HX.out.2.2⟩
      | true =>
        have hcE := hcc rfl
        have hok := hb.1 rfl
        have HCE : Hid _ := hcE
        have HOk : Hid _ := hok
        have HST : Hid (setH (stH S k) k c = stH S (k + 1)) := by
          show setH (stH S k) k c = stH S (k + 1)
          funext j
          unfold setH stH
          by_cases e : j = k
          · subst e; rw [if_pos rfl, if_pos (by omega), hcE]
          · rw [if_neg e]
            by_cases e2 : j < k
            · rw [if_pos e2, if_pos (by omega)]
            · rw [if_neg e2, if_neg (by omega)]
        have hho := fun W => hof_any c W
        unfold clA clC at hho
        have HHO : Hid _ := hho
        obtain ⟨q0, q1, q2, q3, q4, q5, q6, q7, q8⟩ := cells9 r2
        have y1 : w.heap.size ≤ w1.heap.size := L1.f.size
        have hgl : g < w1.heap.size := Row.lt L1.t
        clear hb hcc hcE hok hho
        by_cases h0 : c.st = 0
        · have e0 : ((c.st : Int) == 0) = true := by rw [beq_iff_eq]; omega
          have HOK : Hid (∀ j, j < k + 1 → CellOk S j) := by
            intro j hj
            by_cases e : j = k
            · subst e
              exact ⟨HOk.out, fun h => absurd (by rw [← HCE.out]; exact h0) h⟩
            · exact L1.ok j (by omega)
          have hz : ((c.st : Nat) : Int) = 0 := by omega
          rw [hz] at L2 r2 q0 q1 q2 q3 q4 q5 q6 q7 q8 ⊢
          go_wp2_with fail
          obtain ⟨gc, hgc⟩ : ∃ gc, w1.heap.size = gc := ⟨_, rfl⟩
          have hgc2 : gc < (w1.alloc (.cells (clC 0 c.alg c.id c.fix c.seals c.ahead c.most c.res c.key) 87)).heap.size := by simp; omega
          have hgcn : gc ≠ g := by omega
          rw [hgc] at r2 ⊢
          clear q0 q1 q2 q3 q4 q5 q6 q7 q8 L1
          generalize w1.alloc (.cells (clC 0 c.alg c.id c.fix c.seals c.ahead c.most c.res c.key) 87) = W2 at *
          have r3 : W2.heap[gc]? = some (.cells #[.int .i64 c.st, .int .i64 c.alg, .int .i64 c.id, .string c.fix, .int .i64 c.seals, .int .i64 c.ahead, .int .i64 c.most, .int .i64 c.res, .string c.key] 87 (0, 0)) := by rw [hz]; exact r2
          have L3 := L2
          clear r2 L2 hz h0 e0
          refine wp_region_held_drew (S := fun W' => W'.heap[gc]? = some (.cells #[.int .i64 c.st, .int .i64 c.alg, .int .i64 c.id, .string c.fix, .int .i64 c.seals, .int .i64 c.ahead, .int .i64 c.most, .int .i64 c.res, .string c.key] 87 (0, 0))) (by kernel_rfl) r3 (fun hHeld => ?_)
          refine tk 0 ?v1 ?y1 ?r1
          case y1 => (intro W' hW; go_simp; try with_reducible rfl)
          refine tk 1 ?v2 ?y2 ?r2
          case y2 => (intro W' hW; go_simp; try with_reducible rfl)
          refine tk 2 ?v3 ?y3 ?r3
          case y3 => (intro W' hW; obtain ⟨q0, q1, q2, q3, q4, q5, q6, q7, q8⟩ := cells9 hW; go_simp; try with_reducible rfl)
          refine tk 4 ?v4 ?y4 ?r4
          case y4 => (intro W' hW; go_simp; try with_reducible rfl)
          refine tk 5 ?v5 ?y5 ?r5
          case y5 => (intro W' hW; go_simp; try with_reducible rfl)
          try simp only [Act.put, List.getElem_toArray, List.getElem_cons_zero, List.getElem_cons_succ, List.setIfInBounds_toArray, List.set_cons_zero, List.set_cons_succ]
          refine wpAnyH_ready (rs := [3]) (by kernel_rfl) (by simp) ?_
          refine AllReadyH.cons rfl (fun K hK => ?_) ?nil3
          case nil3 => exact AllReadyH.nil
          go_simp
          refine (HHO.out _).mono ?_
          rintro e wb ⟨rfl, bb⟩
          have Lb := LS.below (LS.drew L3) bb
          have rb : wb.heap[gc]? = some (.cells #[.int .i64 c.st, .int .i64 c.alg, .int .i64 c.id, .string c.fix, .int .i64 c.seals, .int .i64 c.ahead, .int .i64 c.most, .int .i64 c.res, .string c.key] 87 (0, 0)) := by rw [bb.block _ hgc2]; exact r3
          unfold hdA
          go_wp2_with fail
          refine hK.out _ _ rb (fun hHeld => ?_)
          clear hK K
          refine tk 6 ?v6 ?y6 ?r6
          case y6 => (intro W' hW; go_simp; try with_reducible rfl)
          try simp only [Act.put, List.getElem_toArray, List.getElem_cons_zero, List.getElem_cons_succ, List.setIfInBounds_toArray, List.set_cons_zero, List.set_cons_succ]
          refine wpAnyH_ready (rs := [7]) (by kernel_rfl) (by simp) ?_
          refine AllReadyH.cons rfl (fun K hK => ?_) ?nil7
          case nil7 => exact AllReadyH.nil
          obtain ⟨d0, d1, d2, d3, d4, d5, d6, d7, d8, d9⟩ := Lb.t.hd k hk8
          have ff := fun j => Row.frozen Lb.t j
          go_simp
          refine hK.out _ _ (by have := row_lit_set10 rb hgcn k c; exact this) (fun hHeld => ?_)
          clear hK K
          refine wpAnyH_done (by kernel_rfl) ?_ _
          have T9 := tab_set10 Lb.t k c
          rw [HST.out] at T9
          have L9 : LS w (((((((((((wb.setCell ⟨g, 1 + k * 10, none⟩ (.int .i64 c.st)).setCell ⟨g, 1 + k * 10 + 1, none⟩ (.int .i64 c.alg)).setCell ⟨g, 1 + k * 10 + 2, none⟩ (.int .i64 c.id)).setCell ⟨g, 1 + k * 10 + 3, none⟩ (.string c.fix)).setCell ⟨g, 1 + k * 10 + 4, none⟩ (.int .i64 c.seals)).setCell ⟨g, 1 + k * 10 + 5, none⟩ (.int .i64 c.ahead)).setCell ⟨g, 1 + k * 10 + 6, none⟩ (.int .i64 c.most)).setCell ⟨g, 1 + k * 10 + 7, none⟩ (.int .i64 c.res)).setCell ⟨g, 1 + k * 10 + 8, none⟩ (.string c.key)).setCell ⟨g, 1 + k * 10 + 9, none⟩ (.int .i64 c.res))) sx g S (k + 1) := ⟨row_set10 Lb.s (fun e => Row.ne Lb.t Lb.s (by decide) e.symm) k c, T9, fr_set10 Lb.f (by omega) k c, HOK.out⟩
          clear T9 d0 d1 d2 d3 d4 d5 d6 d7 d8 d9 ff rb hHeld r3 L3 Lb
          generalize ((((((((((wb.setCell ⟨g, 1 + k * 10, none⟩ (.int .i64 c.st)).setCell ⟨g, 1 + k * 10 + 1, none⟩ (.int .i64 c.alg)).setCell ⟨g, 1 + k * 10 + 2, none⟩ (.int .i64 c.id)).setCell ⟨g, 1 + k * 10 + 3, none⟩ (.string c.fix)).setCell ⟨g, 1 + k * 10 + 4, none⟩ (.int .i64 c.seals)).setCell ⟨g, 1 + k * 10 + 5, none⟩ (.int .i64 c.ahead)).setCell ⟨g, 1 + k * 10 + 6, none⟩ (.int .i64 c.most)).setCell ⟨g, 1 + k * 10 + 7, none⟩ (.int .i64 c.res)).setCell ⟨g, 1 + k * 10 + 8, none⟩ (.string c.key)).setCell ⟨g, 1 + k * 10 + 9, none⟩ (.int .i64 c.res)) = W9 at *
          go_wp2
          exact ⟨⟨k + 1, by omega, by go_num, L9⟩, by simp [intOf]; omega⟩
        · have e0 : ((c.st : Int) == 0) = false := by rw [beq_eq_false_iff_ne]; omega
          have hha := fun W hT => has_any g sx (stH S k) c.id W hT
          unfold ptr at hha
          have HHA : Hid _ := hha
          have HOKL : Hid _ := L1.ok
          clear hha L1
          go_wp2_with fail
          refine (HHA.out _ L2.t).mono ?_
          rintro e w3 ⟨⟨hex, rfl⟩ | ⟨hno, rfl⟩, b3⟩
          · have L3 := LS.below L2 b3
            have hbad : ¬ ∀ j, j < 8 → CellOk S j := fun h => by
              obtain ⟨i, hi8, hst, hid⟩ := hex
              unfold stH at hst hid
              by_cases hik : i < k
              · rw [if_pos hik] at hst hid
                have := (h k hk8).2 (by rw [← HCE.out]; exact h0) i hik
                apply this
                refine ⟨hst, ?_⟩
                rw [← HCE.out]
                dsimp only at hid
                omega
              · rw [if_neg hik] at hst
                exact hst rfl
            have HX : Hid _ := And.intro hbad (And.intro L3.s L3.f)
            clear hex hbad L2 L3 r2 b3 q0 q1 q2 q3 q4 q5 q6 q7 q8
            go_wp2
            go_ret2
            exact ⟨.inr ⟨HX.out.1, rfl, HX.out.2.1⟩, HX.out.2.2⟩
          · have L3 := LS.below L2 b3
            have HOK : Hid (∀ j, j < k + 1 → CellOk S j) := by
              intro j hj
              by_cases e : j = k
              · subst e
                refine ⟨HOk.out, fun h i hi hh => ?_⟩
                refine hno i (by omega) ⟨?_, ?_⟩
                · unfold stH; rw [if_pos hi]; exact hh.1
                · unfold stH
                  rw [if_pos hi]
                  have := hh.2
                  rw [← HCE.out] at this
                  dsimp only
                  omega
              · exact HOKL.out j (by omega)
            have r3' : w3.heap[w1.heap.size]? = some (.cells #[.int .i64 c.st, .int .i64 c.alg, .int .i64 c.id, .string c.fix, .int .i64 c.seals, .int .i64 c.ahead, .int .i64 c.most, .int .i64 c.res, .string c.key] 87 (0, 0)) := by rw [b3.block _ (by simp)]; exact r2
            have y3 := b3.size
            simp at y3
            clear hno L2 r2 b3 q0 q1 q2 q3 q4 q5 q6 q7 q8
            go_wp2_with fail
            obtain ⟨gc, hgc⟩ : ∃ gc, w1.heap.size = gc := ⟨_, rfl⟩
            have hgc2 : gc < w3.heap.size := by omega
            have hgcn : gc ≠ g := by omega
            rw [hgc] at r3' ⊢
            have r3 := r3'
            clear r3' h0 e0 hgc
            refine wp_region_held_drew (S := fun W' => W'.heap[gc]? = some (.cells #[.int .i64 c.st, .int .i64 c.alg, .int .i64 c.id, .string c.fix, .int .i64 c.seals, .int .i64 c.ahead, .int .i64 c.most, .int .i64 c.res, .string c.key] 87 (0, 0))) (by kernel_rfl) r3 (fun hHeld => ?_)
            refine tk 0 ?v7 ?y7 ?r7
            case y7 => (intro W' hW; go_simp; try with_reducible rfl)
            refine tk 1 ?v8 ?y8 ?r8
            case y8 => (intro W' hW; go_simp; try with_reducible rfl)
            refine tk 2 ?v9 ?y9 ?r9
            case y9 => (intro W' hW; obtain ⟨q0, q1, q2, q3, q4, q5, q6, q7, q8⟩ := cells9 hW; go_simp; try with_reducible rfl)
            refine tk 4 ?v10 ?y10 ?r10
            case y10 => (intro W' hW; go_simp; try with_reducible rfl)
            refine tk 5 ?v11 ?y11 ?r11
            case y11 => (intro W' hW; go_simp; try with_reducible rfl)
            try simp only [Act.put, List.getElem_toArray, List.getElem_cons_zero, List.getElem_cons_succ, List.setIfInBounds_toArray, List.set_cons_zero, List.set_cons_succ]
            refine wpAnyH_ready (rs := [3]) (by kernel_rfl) (by simp) ?_
            refine AllReadyH.cons rfl (fun K hK => ?_) ?nil3
            case nil3 => exact AllReadyH.nil
            go_simp
            refine (HHO.out _).mono ?_
            rintro e wb ⟨rfl, bb⟩
            have Lb := LS.below (LS.drew L3) bb
            have rb : wb.heap[gc]? = some (.cells #[.int .i64 c.st, .int .i64 c.alg, .int .i64 c.id, .string c.fix, .int .i64 c.seals, .int .i64 c.ahead, .int .i64 c.most, .int .i64 c.res, .string c.key] 87 (0, 0)) := by rw [bb.block _ hgc2]; exact r3
            unfold hdA
            go_wp2_with fail
            refine hK.out _ _ rb (fun hHeld => ?_)
            clear hK K
            refine tk 6 ?v12 ?y12 ?r12
            case y12 => (intro W' hW; go_simp; try with_reducible rfl)
            try simp only [Act.put, List.getElem_toArray, List.getElem_cons_zero, List.getElem_cons_succ, List.setIfInBounds_toArray, List.set_cons_zero, List.set_cons_succ]
            refine wpAnyH_ready (rs := [7]) (by kernel_rfl) (by simp) ?_
            refine AllReadyH.cons rfl (fun K hK => ?_) ?nil7
            case nil7 => exact AllReadyH.nil
            obtain ⟨d0, d1, d2, d3, d4, d5, d6, d7, d8, d9⟩ := Lb.t.hd k hk8
            have ff := fun j => Row.frozen Lb.t j
            go_simp
            refine hK.out _ _ (by have := row_lit_set10 rb hgcn k c; exact this) (fun hHeld => ?_)
            clear hK K
            refine wpAnyH_done (by kernel_rfl) ?_ _
            have T9 := tab_set10 Lb.t k c
            rw [HST.out] at T9
            have L9 : LS w (((((((((((wb.setCell ⟨g, 1 + k * 10, none⟩ (.int .i64 c.st)).setCell ⟨g, 1 + k * 10 + 1, none⟩ (.int .i64 c.alg)).setCell ⟨g, 1 + k * 10 + 2, none⟩ (.int .i64 c.id)).setCell ⟨g, 1 + k * 10 + 3, none⟩ (.string c.fix)).setCell ⟨g, 1 + k * 10 + 4, none⟩ (.int .i64 c.seals)).setCell ⟨g, 1 + k * 10 + 5, none⟩ (.int .i64 c.ahead)).setCell ⟨g, 1 + k * 10 + 6, none⟩ (.int .i64 c.most)).setCell ⟨g, 1 + k * 10 + 7, none⟩ (.int .i64 c.res)).setCell ⟨g, 1 + k * 10 + 8, none⟩ (.string c.key)).setCell ⟨g, 1 + k * 10 + 9, none⟩ (.int .i64 c.res))) sx g S (k + 1) := ⟨row_set10 Lb.s (fun e => Row.ne Lb.t Lb.s (by decide) e.symm) k c, T9, fr_set10 Lb.f (by omega) k c, HOK.out⟩
            clear T9 d0 d1 d2 d3 d4 d5 d6 d7 d8 d9 ff rb hHeld r3 L3 Lb
            generalize ((((((((((wb.setCell ⟨g, 1 + k * 10, none⟩ (.int .i64 c.st)).setCell ⟨g, 1 + k * 10 + 1, none⟩ (.int .i64 c.alg)).setCell ⟨g, 1 + k * 10 + 2, none⟩ (.int .i64 c.id)).setCell ⟨g, 1 + k * 10 + 3, none⟩ (.string c.fix)).setCell ⟨g, 1 + k * 10 + 4, none⟩ (.int .i64 c.seals)).setCell ⟨g, 1 + k * 10 + 5, none⟩ (.int .i64 c.ahead)).setCell ⟨g, 1 + k * 10 + 6, none⟩ (.int .i64 c.most)).setCell ⟨g, 1 + k * 10 + 7, none⟩ (.int .i64 c.res)).setCell ⟨g, 1 + k * 10 + 8, none⟩ (.string c.key)).setCell ⟨g, 1 + k * 10 + 9, none⟩ (.int .i64 c.res)) = W9 at *
            go_wp2
            exact ⟨⟨k + 1, by omega, by go_num, L9⟩, by simp [intOf]; omega⟩
    · have : k = 8 := by omega
      subst this
      have s10 := StoP.tabAt hL.s
      have f10 := Row.frozen hL.s 10
      have S9 := StoP.setTab hL.s (some g)
      have F9 := Fr.setCell hL.f (a := ⟨sx, 10, none⟩) (.inr (by simp)) (ptrO (some g))
      have T9 := Row.other hL.t (g' := sx) (k := 10) (v := ptrO (some g)) (fun e => Row.ne hL.t hL.s (by decide) e)
      have OK := hL.ok
      unfold ptrO at S9 F9 T9
      have HX : Hid _ := And.intro S9 (And.intro F9 (And.intro T9 OK))
      clear S9 F9 T9 OK hL
      go_wp2
      go_ret2
      exact ⟨.inl ⟨HX.out.2.2.2, g, by omega, rfl, HX.out.1, HX.out.2.2.1⟩, HX.out.2.1⟩
end Go.Proofs.YtgalgjmhdbncbaaGreat
namespace Go.Proofs.YtgalgjmhdbncbaaGreat
open Go.RowKit
attribute [local go_sem ↓] Go.wp_at_zero Go.wp_at_succ
attribute [local go_sem ↓] cv_wrap
attribute [local go_sem] run_cv cvRes_row cvRes_z blk_new blk_at blk_old blk_drew

def recA (a i : Int) (n b t : ByteArray) : Array Value := #[.int .i64 a, .int .i64 i, .string n, .string b, .string t]
structure SE (w0 w : World) (n0 g gp N : Nat) (a i : Int) (n b t : ByteArray) (f : Nat → UInt8) : Prop where
  rc : w.heap[n0]? = some (.cells (recA a i n b t) 52 (0, 0))
  pc : w.heap[gp]? = some (.cells (partsV g b.size) 155 (0, 0))
  r : Row w g N 5 (by8 f)
  l1 : n0 < g
  l2 : g < gp
  bl : Below n0 w0 w
theorem SE.chg {w0 w w1 : World} {n0 g gp N : Nat} {a i : Int} {n b t : ByteArray} {f f' : Nat → UInt8} (h : SE w0 w n0 g gp N a i n b t f) (hc : Chg g w w1) (hr : Row w1 g N 5 (by8 f')) : SE w0 w1 n0 g gp N a i n b t f' :=
  ⟨by rw [hc.block n0 (by have := h.l1; omega)]; exact h.rc, by rw [hc.block gp (by have := h.l2; omega)]; exact h.pc, hr, h.l1, h.l2, Below.chg h.bl hc (by have := h.l1; omega)⟩
theorem SE.cell {w0 w : World} {n0 g gp N : Nat} {a i : Int} {n b t : ByteArray} {f : Nat → UInt8} (h : SE w0 w n0 g gp N a i n b t f) :
    w.cell? ⟨n0, 0, none⟩ = some (.int .i64 a) ∧ w.cell? ⟨n0, 1, none⟩ = some (.int .i64 i) ∧ w.cell? ⟨n0, 2, none⟩ = some (.string n) ∧ w.cell? ⟨n0, 3, none⟩ = some (.string b) ∧ w.cell? ⟨n0, 4, none⟩ = some (.string t) ∧
    w.cell? ⟨gp, 0, none⟩ = some (.slice (some ⟨g, 0, none⟩) 3 3) ∧ w.cell? ⟨gp, 1, none⟩ = some (.slice (some ⟨g, 3, none⟩) 1 1) ∧ w.cell? ⟨gp, 2, none⟩ = some (.slice (some ⟨g, 4, none⟩) 2 2) ∧ w.cell? ⟨gp, 3, none⟩ = some (.slice (some ⟨g, 6, none⟩) 12 12) ∧
    w.cell? ⟨gp, 4, none⟩ = some (.slice (some ⟨g, 18, none⟩) 2 2) ∧ w.cell? ⟨gp, 5, none⟩ = some (.slice (some ⟨g, bo b.size, none⟩) b.size b.size) ∧ w.cell? ⟨gp, 6, none⟩ = some (.slice (some ⟨g, 20 + b.size, none⟩) 16 16) := by
  refine ⟨?_, ?_, ?_, ?_, ?_, ?_, ?_, ?_, ?_, ?_, ?_, ?_⟩
  · rw [cell_of_row _ _ 0 _ _ _ h.rc]; rfl
  · rw [cell_of_row _ _ 1 _ _ _ h.rc]; rfl
  · rw [cell_of_row _ _ 2 _ _ _ h.rc]; rfl
  · rw [cell_of_row _ _ 3 _ _ _ h.rc]; rfl
  · rw [cell_of_row _ _ 4 _ _ _ h.rc]; rfl
  · rw [cell_of_row _ _ 0 _ _ _ h.pc]; rfl
  · rw [cell_of_row _ _ 1 _ _ _ h.pc]; rfl
  · rw [cell_of_row _ _ 2 _ _ _ h.pc]; rfl
  · rw [cell_of_row _ _ 3 _ _ _ h.pc]; rfl
  · rw [cell_of_row _ _ 4 _ _ _ h.pc]; rfl
  · rw [cell_of_row _ _ 5 _ _ _ h.pc]; rfl
  · rw [cell_of_row _ _ 6 _ _ _ h.pc]; rfl

def markT : ByteArray := ⟨#[99, 103, 1]⟩
def e1F : Nat → UInt8 := cpF (fun _ => 0) 0 markT
def e2F (A : Nat) : Nat → UInt8 := putF e1F 3 1 A
def e3F (A I : Nat) : Nat → UInt8 := putF (e2F A) 4 2 I
def e4F (A I : Nat) (n : ByteArray) : Nat → UInt8 := cpF (e3F A I) 6 n
def e5F (A I : Nat) (n b : ByteArray) : Nat → UInt8 := putF (e4F A I n) 18 2 b.size
def e6F (A I : Nat) (n b : ByteArray) : Nat → UInt8 := cpF (e5F A I n b) (bo b.size) b
def e7F (A I : Nat) (n b t : ByteArray) : Nat → UInt8 := cpF (e6F A I n b) (20 + b.size) t
theorem enc_bytes (A I : Nat) (n b t : ByteArray) (hn : n.size = 12) (hb : b.size ≤ 200) (ht : t.size = 16) : str (36 + b.size) (e7F A I n b t) = encT A I n b t := by
  unfold encT
  apply str_congr
  intro j hj
  have h6 : e6F A I n b j = if 20 ≤ j ∧ j < 20 + b.size then sf b (j - 20) else e5F A I n b j := by
    unfold e6F cpF bo
    by_cases h0 : b.size = 0
    · rw [if_pos h0, if_neg (by omega), if_neg (by omega)]
    · rw [if_neg h0]
  unfold e7F cpF recF
  rw [ht]
  by_cases h1 : j < 20
  · rw [if_neg (by omega), h6, if_neg (by omega), if_pos h1]
    unfold e5F putF
    rcases (by omega : j = 0 ∨ j = 1 ∨ j = 2 ∨ j = 3 ∨ j = 4 ∨ j = 5 ∨ (6 ≤ j ∧ j < 18) ∨ j = 18 ∨ j = 19) with h | h | h | h | h | h | h | h | h
    · subst h
      rw [if_neg (by omega)]
      unfold e4F cpF
      rw [hn, if_neg (by omega)]
      rfl
    · subst h
      rw [if_neg (by omega)]
      unfold e4F cpF
      rw [hn, if_neg (by omega)]
      rfl
    · subst h
      rw [if_neg (by omega)]
      unfold e4F cpF
      rw [hn, if_neg (by omega)]
      rfl
    · subst h
      rw [if_neg (by omega)]
      unfold e4F cpF
      rw [hn, if_neg (by omega), head3]
      unfold e3F e2F putF numF
      rw [if_neg (by omega), if_pos (by omega)]
      simp
    · subst h
      rw [if_neg (by omega)]
      unfold e4F cpF
      rw [hn, if_neg (by omega), head4]
      unfold e3F putF numF
      rw [if_pos (by omega)]
    · subst h
      rw [if_neg (by omega)]
      unfold e4F cpF
      rw [hn, if_neg (by omega), head5]
      unfold e3F putF numF
      rw [if_pos (by omega)]
      simp
    · rw [if_neg (by omega)]
      unfold e4F cpF
      rw [hn, if_pos (by omega)]
      have e := headN A I b.size n (j - 6) (by omega)
      rw [show 6 + (j - 6) = j by omega] at e
      exact e.symm
    · subst h
      rw [if_pos (by omega), head18]
      unfold numF
      simp
    · subst h
      rw [if_pos (by omega), head19]
      unfold numF
      simp
  · rw [if_neg h1]
    by_cases h2 : j < 20 + b.size
    · rw [if_neg (by omega), h6, if_pos (by omega), if_pos h2]
    · rw [if_pos (by omega), if_neg h2]
      congr 1
      omega

set_option maxRecDepth 100000 in
set_option maxHeartbeats 4000000 in
theorem runOf_any (A I : Nat) (n b t : ByteArray) (hA1 : 1 ≤ A) (hA3 : A ≤ 3) (hI : I ≤ 65535) (hn : n.size = 12) (hb : b.size ≤ 200) (ht : t.size ≤ 16) (w : World) :
    Calls Tryz.prog 118 #[recV A I n b t] w fun e w' => ∃ g, e = .returned (.slice (some ⟨g, 0, none⟩) (36 + b.size) (36 + b.size)) ∧ w.heap.size ≤ g ∧ Row w' g (36 + b.size) 5 (by8 (e7F A I n b t)) ∧ Below w.heap.size w w' := by
  have HN : Hid _ := hn
  have hmk := fun w => mk8 (36 + b.size) (by omega) w
  rw [show ((36 + b.size : Nat) : Int) = 36 + (b.size : Int) by omega] at hmk
  have hN12 : n.size ≤ 12 := by omega
  have hT16 : t.size ≤ 16 := ht
  clear hn ht
  unfold recV
  go_enter Tryz.func118, Tryz.ntmps118
  go_wp2_with fail
  refine (length_any b.size (by omega) _).mono ?_
  rintro e w1' ⟨rfl, hw⟩
  have r1 : w1'.heap[w.heap.size]? = some (.cells (recA A I n b t) 52 (0, 0)) := by rw [hw]; exact heap_of_new _ _ _ rfl
  have B1 : Below w.heap.size w w1' := by rw [hw]; exact (Below.refl _ w).alloc (Nat.le_refl _) _
  have z1 : w.heap.size < w1'.heap.size := by rw [hw]; simp
  have hmk2 := hmk w1'
  clear hw
  go_wp2_with fail
  have hct := fun W => cut_any w1'.heap.size b.size (36 + b.size) (by omega) (Nat.le_refl _) W
  unfold partsV at hct
  refine (hct _).mono ?_
  clear hct
  rintro e w2 ⟨rfl, b2⟩
  have z2 := b2.size
  simp at z2
  have S0 : SE w (w2.alloc (.cells (partsV w1'.heap.size b.size) 155)) w.heap.size w1'.heap.size w2.heap.size (36 + b.size) A I n b t (fun _ => 0) := by
    refine ⟨?_, heap_of_new _ _ _ rfl, ?_, by omega, by omega, ?_⟩
    · refine heap_of_old _ _ _ _ (by omega) ?_
      rw [b2.block _ (by simp; omega)]
      exact heap_of_old _ _ _ _ (by omega) r1
    · exact Row.alloc (Row.keep (Row.new w1' (36 + b.size) 5 z8 _ rfl) b2 (by simp)) _
    · exact ((B1.alloc B1.size _).trans (b2.mono (by have := B1.size; simp; omega))).alloc (by have := B1.size; omega) _
  have HS : Hid _ := S0
  clear S0 b2 r1 B1 hmk hmk2
  go_wp2_with (refine cpAt rfl _ _ rfl w1'.heap.size 0 (36 + b.size) 3 3 5 (fun _ => 0) markT rfl rfl (SE.r HS.out) (by decide) (by show 0 + 3 ≤ _; omega) ?_; intro w3 hc3 r3; have S3 : SE w w3 w.heap.size w1'.heap.size w2.heap.size (36 + b.size) A I n b t e1F := SE.chg HS.out hc3 r3; clear HS hc3 r3; obtain ⟨d0, d1, d2, d3, d4, p0, p1, p2, p3, p4, p5, p6⟩ := S3.cell)
  refine (put_any w1'.heap.size 3 1 1 (36 + b.size) 5 e1F A (by omega) (by omega) (by omega) w3 S3.r).mono ?_
  rintro e w4 ⟨rfl, hc4, r4⟩
  clear d0 d1 d2 d3 d4 p0 p1 p2 p3 p4 p5 p6
  have S4 : SE w w4 w.heap.size w1'.heap.size w2.heap.size (36 + b.size) A I n b t (e2F A) := SE.chg S3 hc4 r4
  clear S3 hc4 r4
  obtain ⟨d0, d1, d2, d3, d4, p0, p1, p2, p3, p4, p5, p6⟩ := S4.cell
  go_wp2_with fail
  refine (put_any w1'.heap.size 4 2 2 (36 + b.size) 5 (e2F A) I (by omega) (by omega) (by omega) w4 S4.r).mono ?_
  rintro e w5 ⟨rfl, hc5, r5⟩
  clear d0 d1 d2 d3 d4 p0 p1 p2 p3 p4 p5 p6
  have S5 : SE w w5 w.heap.size w1'.heap.size w2.heap.size (36 + b.size) A I n b t (e3F A I) := SE.chg S4 hc5 r5
  clear S4 hc5 r5
  obtain ⟨d0, d1, d2, d3, d4, p0, p1, p2, p3, p4, p5, p6⟩ := S5.cell
  go_wp2_with (refine cpAt rfl _ _ rfl w1'.heap.size 6 (36 + b.size) 12 12 5 (e3F A I) n rfl rfl S5.r hN12 (by omega) ?_; intro w6 hc6 r6; clear d0 d1 d2 d3 d4 p0 p1 p2 p3 p4 p5 p6; have S6 : SE w w6 w.heap.size w1'.heap.size w2.heap.size (36 + b.size) A I n b t (e4F A I n) := SE.chg S5 hc6 r6; clear S5 hc6 r6; obtain ⟨d0, d1, d2, d3, d4, p0, p1, p2, p3, p4, p5, p6⟩ := S6.cell)
  refine (put_any w1'.heap.size 18 2 2 (36 + b.size) 5 (e4F A I n) b.size (by omega) (by omega) (by omega) w6 S6.r).mono ?_
  rintro e w7 ⟨rfl, hc7, r7⟩
  clear d0 d1 d2 d3 d4 p0 p1 p2 p3 p4 p5 p6
  have S7 : SE w w7 w.heap.size w1'.heap.size w2.heap.size (36 + b.size) A I n b t (e5F A I n b) := SE.chg S6 hc7 r7
  clear S6 hc7 r7
  obtain ⟨d0, d1, d2, d3, d4, p0, p1, p2, p3, p4, p5, p6⟩ := S7.cell
  have hbo : bo b.size + b.size ≤ 36 + b.size := by unfold bo; split <;> omega
  go_wp2_with (first
    | (refine cpAt rfl _ _ rfl w1'.heap.size (bo b.size) (36 + b.size) b.size b.size 5 (e5F A I n b) b rfl rfl S7.r (Nat.le_refl _) hbo ?_; intro w8 hc8 r8; clear d0 d1 d2 d3 d4 p0 p1 p2 p3 p4 p5 p6; have S8 : SE w w8 w.heap.size w1'.heap.size w2.heap.size (36 + b.size) A I n b t (e6F A I n b) := SE.chg S7 hc8 r8; clear S7 hc8 r8; obtain ⟨d0, d1, d2, d3, d4, p0, p1, p2, p3, p4, p5, p6⟩ := S8.cell)
    | (refine cpAt rfl _ _ rfl w1'.heap.size (20 + b.size) (36 + b.size) 16 16 5 (e6F A I n b) t rfl rfl S8.r hT16 (by omega) ?_; intro w9 hc9 r9; clear d0 d1 d2 d3 d4 p0 p1 p2 p3 p4 p5 p6; have S9 : SE w w9 w.heap.size w1'.heap.size w2.heap.size (36 + b.size) A I n b t (e7F A I n b t) := SE.chg S8 hc9 r9; clear S8 hc9 r9; have q9 := heap_pos S9.r))
  go_ret
  exact ⟨_, rfl, by omega, S9.r, S9.bl⟩
set_option maxRecDepth 100000 in
set_option maxHeartbeats 4000000 in
theorem rencode_yes (A I : Nat) (n b t : ByteArray) (hA1 : 1 ≤ A) (hA3 : A ≤ 3) (hI : I ≤ 65535) (hn : n.size = 12) (hb : b.size ≤ 200) (ht : t.size = 16) (w : World) :
    Calls Tryz.prog 80 #[recV A I n b t] w fun e w' => e = .returned (.tuple #[.string (encT A I n b t), .bool true]) ∧ Below w.heap.size w w' := by
  have HR : Hid (RecOk A I n b t) := ⟨⟨by omega, by omega⟩, by omega, by omega, hn, hb, ht⟩
  have HE : Hid _ := enc_bytes A I n b t hn hb ht
  have hr := fun w => runOf_any A I n b t hA1 hA3 hI hn hb (by omega) w
  unfold recV at hr
  have HU : Hid _ := hr
  clear hn ht hr
  unfold recV
  go_enter Tryz.func80, Tryz.ntmps80
  go_wp2_with fail
  refine (right_yes A I n b t HR.out _).mono ?_
  rintro e w1 ⟨rfl, b1⟩
  have r1 : w1.heap[w.heap.size]? = some (.cells (recA A I n b t) 52 (0, 0)) := by rw [b1.block _ (by simp)]; exact heap_of_new _ _ _ rfl
  have B1 : Below w.heap.size w w1 := ((Below.refl _ w).alloc (Nat.le_refl _) _).trans (b1.mono (by simp))
  clear b1
  have y0 : w1.cell? ⟨w.heap.size, 0, none⟩ = some (.int .i64 A) := by rw [cell_of_row _ _ 0 _ _ _ r1]; rfl
  have y1 : w1.cell? ⟨w.heap.size, 1, none⟩ = some (.int .i64 I) := by rw [cell_of_row _ _ 1 _ _ _ r1]; rfl
  have y2 : w1.cell? ⟨w.heap.size, 2, none⟩ = some (.string n) := by rw [cell_of_row _ _ 2 _ _ _ r1]; rfl
  have y3 : w1.cell? ⟨w.heap.size, 3, none⟩ = some (.string b) := by rw [cell_of_row _ _ 3 _ _ _ r1]; rfl
  have y4 : w1.cell? ⟨w.heap.size, 4, none⟩ = some (.string t) := by rw [cell_of_row _ _ 4 _ _ _ r1]; rfl
  go_wp2_with fail
  refine (HU.out _).mono ?_
  rintro e w2 ⟨g, rfl, hg, R2, b2⟩
  have q2 := heap_pos R2
  have B2 := B1.trans (b2.mono B1.size)
  clear y0 y1 y2 y3 y4
  go_wp2
  go_ret2
  exact ⟨by rw [← HE.out]; rfl, B2⟩
end Go.Proofs.YtgalgjmhdbncbaaGreat
namespace Go.Proofs.YtgalgjmhdbncbaaGreat
open Go.RowKit
attribute [local go_sem ↓] Go.wp_at_zero Go.wp_at_succ

set_option maxRecDepth 100000 in
set_option maxHeartbeats 1000000 in
theorem rencode_no (a i : Int) (n b t : ByteArray) (h : ¬ RecOk a i n b t) (hb : b.size ≤ maxLen) (w : World) :
    Calls Tryz.prog 80 #[recV a i n b t] w fun e w' => e = .returned (.tuple #[.string ⟨#[]⟩, .bool false]) ∧ Below w.heap.size w w' := by
  have HR : Hid _ := h
  have HB : Hid _ := hb
  clear h hb
  unfold recV
  go_enter Tryz.func80, Tryz.ntmps80
  go_wp2_with fail
  refine (right_no a i n b t HR.out HB.out _).mono ?_
  rintro e w1 ⟨rfl, b1⟩
  go_wp2
  go_ret2
  exact ⟨rfl, ((Below.refl _ w).alloc (Nat.le_refl _) _).trans (b1.mono (by simp))⟩
set_option maxRecDepth 100000 in
set_option maxHeartbeats 1000000 in
theorem encode_no (a i : Int) (n b t : ByteArray) (h : ¬ RecOk a i n b t) (hb : b.size ≤ maxLen) (w : World) :
    Calls Tryz.prog 97 #[recV a i n b t] w fun e w' => e = .returned (.tuple #[.string ⟨#[]⟩, .int .i64 1]) ∧ Below w.heap.size w w' := by
  have HR : Hid _ := h
  have HB : Hid _ := hb
  clear h hb
  unfold recV
  go_enter Tryz.func97, Tryz.ntmps97
  go_wp2_with fail
  refine (rencode_no a i n b t HR.out HB.out _).mono ?_
  rintro e w1 ⟨rfl, b1⟩
  go_wp2
  go_ret2
  exact ⟨rfl, ((Below.refl _ w).alloc (Nat.le_refl _) _).trans (b1.mono (by simp))⟩
set_option maxRecDepth 100000 in
set_option maxHeartbeats 1000000 in
theorem encode_yes (A I : Nat) (n b t : ByteArray) (hA1 : 1 ≤ A) (hA3 : A ≤ 3) (hI : I ≤ 65535) (hn : n.size = 12) (hb : b.size ≤ 200) (ht : t.size = 16) (w : World) :
    Calls Tryz.prog 97 #[recV A I n b t] w fun e w' => e = .returned (.tuple #[.string (encT A I n b t), .int .i64 0]) ∧ Below w.heap.size w w' := by
  have HN : Hid _ := hn
  have HT : Hid _ := ht
  clear hn ht
  unfold recV
  go_enter Tryz.func97, Tryz.ntmps97
  go_wp2_with fail
  refine (rencode_yes A I n b t hA1 hA3 hI HN.out hb HT.out _).mono ?_
  rintro e w1 ⟨rfl, b1⟩
  go_wp2
  go_ret2
  exact ⟨rfl, ((Below.refl _ w).alloc (Nat.le_refl _) _).trans (b1.mono (by simp))⟩

end Go.Proofs.YtgalgjmhdbncbaaGreat
