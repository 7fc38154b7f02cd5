import Derived.Test.YtgalgjmhdbncbaaGreatZf20
import Derived.Test.YtgalgjmhdbncbaaGreatZf18
import Derived.Deep.RegionHeld
namespace Go.Proofs.YtgalgjmhdbncbaaGreat
open Go.RowKit
attribute [local go_sem ↓] Go.wp_at_zero Go.wp_at_succ

theorem hdA_of (h : Hd) : hdA h = #[.int .i64 h.c.st, .int .i64 h.c.alg, .int .i64 h.c.id, .string h.c.fix, .int .i64 h.c.seals, .int .i64 h.c.ahead, .int .i64 h.c.most, .int .i64 h.c.res, .string h.c.key, .int .i64 h.ctr] := rfl
theorem stN_hd' (a b c : Int) (f : ByteArray) (d e x h : Int) (k : ByteArray) (m : Int) (g : Nat) (w : World) (r : Result Unit) :
    stN (some (.cells zhdA 89 (0, 0))) 10 (.agg #[.int .i64 a, .int .i64 b, .int .i64 c, .string f, .int .i64 d, .int .i64 e, .int .i64 x, .int .i64 h, .string k, .int .i64 m]) g w r
      = .ok () (w.setRow g #[.int .i64 a, .int .i64 b, .int .i64 c, .string f, .int .i64 d, .int .i64 e, .int .i64 x, .int .i64 h, .string k, .int .i64 m]) := by
  unfold stN
  exact if_pos ⟨rfl, rfl, rfl, by simp [Value.oneCell']⟩
attribute [local go_sem ↓] al89 stw89 al87 stw87
attribute [local go_sem] run_al89 run_stT89 stN_hd' run_al87 run_stT87 stN_cl blk_new blk_at blk_old blk_drew blk_setCell blk_setRow alloc_setRow
set_option maxRecDepth 100000 in
set_option maxHeartbeats 4000000 in
theorem hof_any (c : Cl) (w : World) : Calls Tryz.prog 35 #[.agg (clA c)] w fun e w' => e = .returned (.agg (hdA ⟨c, c.res⟩)) ∧ Below w.heap.size w w' := by
  unfold clA clC
  go_enter Tryz.func35, Tryz.ntmps35
  go_wp2
  have hh : ((w.alloc (.cells (clA c) 87)).alloc (.cells (hdA ⟨c, c.res⟩) 89)).heap[w.heap.size + 1]? = some (.cells (hdA ⟨c, c.res⟩) 89 (0, 0)) := heap_of_new _ _ _ (by simp)
  unfold hdA clA clC at hh
  refine bodyPost_ret (results_cell_row Tryz.results35 _ _ (w.heap.size + 1) 89 (hdA ⟨c, c.res⟩) (0, 0) _ rfl ?_ Tryz.underlying89 rfl (by kernel_rfl)) rfl ⟨rfl, ?_⟩
  · first | exact hh | exact setRow_heap _ _ _ _ 89 _ (heap_of_new _ _ _ (by simp))
  · first | exact ((Below.refl _ w).alloc (Nat.le_refl _) _).alloc (by simp) _ | exact Below.setRow (((Below.refl _ w).alloc (Nat.le_refl _) _).alloc (by simp) _) (by omega) _
structure HdAt (w : World) (g o : Nat) (h : Hd) : Prop where
  c0 : w.cell? ⟨g, o, none⟩ = some (.int .i64 h.c.st)
  c1 : w.cell? ⟨g, o + 1, none⟩ = some (.int .i64 h.c.alg)
  c2 : w.cell? ⟨g, o + 2, none⟩ = some (.int .i64 h.c.id)
  c3 : w.cell? ⟨g, o + 3, none⟩ = some (.string h.c.fix)
  c4 : w.cell? ⟨g, o + 4, none⟩ = some (.int .i64 h.c.seals)
  c5 : w.cell? ⟨g, o + 5, none⟩ = some (.int .i64 h.c.ahead)
  c6 : w.cell? ⟨g, o + 6, none⟩ = some (.int .i64 h.c.most)
  c7 : w.cell? ⟨g, o + 7, none⟩ = some (.int .i64 h.c.res)
  c8 : w.cell? ⟨g, o + 8, none⟩ = some (.string h.c.key)
  c9 : w.cell? ⟨g, o + 9, none⟩ = some (.int .i64 h.ctr)
theorem TabP.hd {w : World} {g sx : Nat} {H : Nat → Hd} (h : TabP w g sx H) (i : Nat) (hi : i < 8) : HdAt w g (1 + i * 10) (H i) :=
  ⟨h.at i 0 hi (by omega), h.at i 1 hi (by omega), h.at i 2 hi (by omega), h.at i 3 hi (by omega), h.at i 4 hi (by omega), h.at i 5 hi (by omega), h.at i 6 hi (by omega), h.at i 7 hi (by omega), h.at i 8 hi (by omega), h.at i 9 hi (by omega)⟩
set_option maxRecDepth 100000 in
set_option maxHeartbeats 4000000 in
theorem spent_any (g o : Nat) (h : Hd) (w : World) (ha : HdAt w g o h) : Calls Tryz.prog 39 #[.pointer (some ⟨g, o, none⟩)] w fun e w' => e = .returned (.bool (decide (h.ctr = h.c.seals))) ∧ Below w.heap.size w w' := by
  have c4 := ha.c4
  have c9 := ha.c9
  have e : decide (h.ctr = h.c.seals) = ((h.ctr : Int) == (h.c.seals : Int)) := by rw [Bool.eq_iff_iff, beq_iff_eq, decide_eq_true_iff]; omega
  rw [e]
  clear e ha
  go_enter Tryz.func39, Tryz.ntmps39
  go_wp2_with fail
  go_region
  go_wp2
  go_ret
  exact ⟨rfl, (Below.refl _ _).drew⟩
set_option maxRecDepth 100000 in
set_option maxHeartbeats 4000000 in
theorem short_any (g o : Nat) (h : Hd) (w : World) (ha : HdAt w g o h) : Calls Tryz.prog 40 #[.pointer (some ⟨g, o, none⟩)] w fun e w' => e = .returned (.bool (decide (h.ctr = h.c.res))) ∧ Below w.heap.size w w' := by
  have c4 := ha.c7
  have c9 := ha.c9
  have e : decide (h.ctr = h.c.res) = ((h.ctr : Int) == (h.c.res : Int)) := by rw [Bool.eq_iff_iff, beq_iff_eq, decide_eq_true_iff]; omega
  rw [e]
  clear e ha
  go_enter Tryz.func40, Tryz.ntmps40
  go_wp2_with fail
  go_region
  go_wp2
  go_ret
  exact ⟨rfl, (Below.refl _ _).drew⟩
def stA (a c r : Int) (t : Bool) : Array Value := #[.int .i64 a, .int .i64 c, .int .i64 r, .bool t]
theorem heap_four {w : World} {g : Nat} {a c r : Int} {t : Bool} (v0 v1 v2 v3 : Value) (h : w.heap[g]? = some (.cells (stA a c r t) 68 (0, 0))) :
    ((((w.setCell ⟨g, 0, none⟩ v0).setCell ⟨g, 1, none⟩ v1).setCell ⟨g, 2, none⟩ v2).setCell ⟨g, 3, none⟩ v3).heap[g]? = some (.cells #[v0, v1, v2, v3] 68 (0, 0)) := by
  have h0 := heap_setCell_same w g 0 _ 68 v0 h
  have h1 := heap_setCell_same _ g 1 _ 68 v1 h0
  have h2 := heap_setCell_same _ g 2 _ 68 v2 h1
  have h3 := heap_setCell_same _ g 3 _ 68 v3 h2
  simpa [stA] using h3
set_option maxRecDepth 100000 in
set_option maxHeartbeats 4000000 in
theorem hstatus_any (g o : Nat) (h : Hd) (w : World) (hg : g < w.heap.size) (ha : HdAt w g o h) : Calls Tryz.prog 53 #[.pointer (some ⟨g, o, none⟩)] w fun e w' => e = .returned (.agg (stA h.c.alg h.ctr h.c.res (decide (h.c.st = 2)))) ∧ Below w.heap.size w w' := by
  obtain ⟨c0, c1, c2, c3, c4, c5, c6, c7, c8, c9⟩ := ha
  have e : decide (h.c.st = 2) = ((h.c.st : Int) == 2) := by rw [Bool.eq_iff_iff, beq_iff_eq, decide_eq_true_iff]; omega
  rw [e]
  clear e c2 c3 c4 c5 c6 c8
  have k0 := (Below.refl w.heap.size w).alloc (Nat.le_refl _) (.cells (stA 0 0 0 false) 68)
  have hz : (w.alloc (.cells (stA 0 0 0 false) 68)).heap[w.heap.size]? = some (.cells (stA 0 0 0 false) 68 (0, 0)) := heap_of_new _ _ _ rfl
  rw [← k0.cell (p := ⟨g, o, none⟩) hg] at c0
  rw [← k0.cell (p := ⟨g, o + 1, none⟩) hg] at c1
  rw [← k0.cell (p := ⟨g, o + 7, none⟩) hg] at c7
  rw [← k0.cell (p := ⟨g, o + 9, none⟩) hg] at c9
  go_enter Tryz.func53, Tryz.ntmps53
  go_wp2_with fail
  suffices HH : ∀ W, W.cell? ⟨g, o, none⟩ = some (.int .i64 h.c.st) → W.cell? ⟨g, o + 1, none⟩ = some (.int .i64 h.c.alg) → W.cell? ⟨g, o + 7, none⟩ = some (.int .i64 h.c.res) → W.cell? ⟨g, o + 9, none⟩ = some (.int .i64 h.ctr) → W.heap[w.heap.size]? = some (.cells (stA 0 0 0 false) 68 (0, 0)) → Below w.heap.size w W → Code.wp Tryz.prog _ _ _ W from HH _ c0 c1 c7 c9 hz k0
  clear c0 c1 c7 c9 hz k0
  intro W c0 c1 c7 c9 hz hB
  have z0 : W.cell? ⟨w.heap.size, 0, none⟩ = some (.int .i64 0) := by rw [cell_of_row _ _ 0 _ _ _ hz]; rfl
  have z1 : W.cell? ⟨w.heap.size, 1, none⟩ = some (.int .i64 0) := by rw [cell_of_row _ _ 1 _ _ _ hz]; rfl
  have z2 : W.cell? ⟨w.heap.size, 2, none⟩ = some (.int .i64 0) := by rw [cell_of_row _ _ 2 _ _ _ hz]; rfl
  have z3 : W.cell? ⟨w.heap.size, 3, none⟩ = some (.bool false) := by rw [cell_of_row _ _ 3 _ _ _ hz]; rfl
  have f0 := fun j => frozen_of_row _ _ j _ _ hz
  go_region
  go_wp2
  refine bodyPost_ret (results_cell_row Tryz.results53 _ _ w.heap.size 68 _ (0, 0) _ rfl (heap_four _ _ _ _ hz) Tryz.underlying68 rfl (by kernel_rfl)) rfl ⟨rfl, ?_⟩
  exact ((((hB.setCell (Nat.le_refl _) _).setCell (Nat.le_refl _) _).setCell (Nat.le_refl _) _).setCell (Nat.le_refl _) _).drew
theorem cells4 {w : World} {g : Nat} {a c r : Int} {t : Bool} (h : w.heap[g]? = some (.cells (stA a c r t) 68 (0, 0))) : w.cell? ⟨g, 0, none⟩ = some (.int .i64 a) ∧ w.cell? ⟨g, 1, none⟩ = some (.int .i64 c) ∧ w.cell? ⟨g, 2, none⟩ = some (.int .i64 r) ∧ w.cell? ⟨g, 3, none⟩ = some (.bool t) := by
  refine ⟨?_, ?_, ?_, ?_⟩
  · rw [cell_of_row _ _ 0 _ _ _ h]; rfl
  · rw [cell_of_row _ _ 1 _ _ _ h]; rfl
  · rw [cell_of_row _ _ 2 _ _ _ h]; rfl
  · rw [cell_of_row _ _ 3 _ _ _ h]; rfl
theorem res68 {fn : Func} {p u : Tmp} (h : fn.results = #[.cell p 68, .tmp u]) (tmps : Array Value) (w : World) (g : Nat) (v0 v1 v2 v3 : Value) (v : Value)
    (hp : tmps.getD p undef = .pointer (some ⟨g, 0, none⟩)) (hv : tmps.getD u undef = v) (hg : w.heap[g]? = some (.cells #[v0, v1, v2, v3] 68 (0, 0))) : (results fn tmps).run Tryz.prog w = .ok (.tuple #[.agg #[v0, v1, v2, v3], v]) w := by
  have hp' : tmps[p]?.getD undef = .pointer (some ⟨g, 0, none⟩) := by simpa using hp
  have hv' : tmps[u]?.getD undef = v := by simpa using hv
  have hl := run_loadVar_row (P := Tryz.prog) w g 68 68 _ (0, 0) _ hg Tryz.underlying68 rfl (by kernel_rfl)
  simp [results, h, hp', hv', asAddr, hl]
set_option maxRecDepth 100000 in
set_option maxHeartbeats 4000000 in
theorem status_any (g sx : Nat) (H : Nat → Hd) (id : Int) (w : World) (h : TabP w g sx H) :
    Calls Tryz.prog 25 #[ptr g, .int .i64 id] w fun e w' => ((∃ i, i < 8 ∧ hit H id i ∧ (∀ j, j < i → ¬ hit H id j) ∧ e = .returned (.tuple #[.agg (stA (H i).c.alg (H i).ctr (H i).c.res (decide ((H i).c.st = 2))), .int .i64 0])) ∨ ((∀ j, j < 8 → ¬ hit H id j) ∧ e = .returned (.tuple #[.agg (stA 0 0 0 false), .int .i64 11]))) ∧ Below w.heap.size w w' := by
  have hf := fun w h => find_any g sx H id w h
  have hlt := Row.lt h
  unfold ptr at hf ⊢
  have HF : Hid _ := hf
  clear hf
  have h1 : TabP (w.alloc (.cells (stA 0 0 0 false) 68)) g sx H := Row.alloc h _
  have k0 := (Below.refl w.heap.size w).alloc (Nat.le_refl _) (.cells (stA 0 0 0 false) 68)
  have hz0 : (w.alloc (.cells (stA 0 0 0 false) 68)).heap[w.heap.size]? = some (.cells (stA 0 0 0 false) 68 (0, 0)) := heap_of_new _ _ _ rfl
  go_enter Tryz.func25, Tryz.ntmps25
  go_wp2_with fail
  refine (HF.out _ h1).mono ?_
  rintro e w1 ⟨⟨i, hi, hh, hm, rfl⟩ | ⟨hn, rfl⟩, b1⟩
  · have h2 : TabP w1 g sx H := Row.keep h1 b1 (Row.lt h1)
    have hz : w1.heap[w.heap.size]? = some (.cells (stA 0 0 0 false) 68 (0, 0)) := by rw [b1.block _ (by simp)]; exact hz0
    have B1 : Below w.heap.size w w1 := k0.trans (b1.mono (by simp))
    have hs := hstatus_any g (1 + i * 10) (H i) w1 (Row.lt h2) (h2.hd i hi)
    have HH : Hid _ := And.intro hi (And.intro hh hm)
    unfold stA at hs
    have HS : Hid _ := hs
    have y1 : w.heap.size < w1.heap.size := by have := b1.size; simp at this; omega
    clear hs hh hm h1 k0 hz0 b1
    go_wp2_with fail
    refine Calls.mono HS.out ?_
    rintro e w2 ⟨rfl, b2⟩
    have hz2 : w2.heap[w.heap.size]? = some (.cells (stA 0 0 0 false) 68 (0, 0)) := by rw [b2.block _ y1]; exact hz
    obtain ⟨z0, z1, z2, z3⟩ := cells4 hz2
    have f0 := fun j => frozen_of_row _ _ j _ _ hz2
    have B2 := B1.trans (b2.mono B1.size)
    clear HS hz
    go_wp2
    refine bodyPost_ret (res68 Tryz.results25 _ _ w.heap.size _ _ _ _ _ rfl rfl (heap_four _ _ _ _ hz2)) rfl ⟨.inl ⟨i, HH.out.1, HH.out.2.1, HH.out.2.2, rfl⟩, ?_⟩
    exact ((((B2.setCell (Nat.le_refl _) _).setCell (Nat.le_refl _) _).setCell (Nat.le_refl _) _).setCell (Nat.le_refl _) _)
  · have hz : w1.heap[w.heap.size]? = some (.cells (stA 0 0 0 false) 68 (0, 0)) := by rw [b1.block _ (by simp)]; exact hz0
    obtain ⟨z0, z1, z2, z3⟩ := cells4 hz
    have f0 := fun j => frozen_of_row _ _ j _ _ hz
    have B1 : Below w.heap.size w w1 := k0.trans (b1.mono (by simp))
    have HN : Hid _ := hn
    clear hn h1 k0 hz0 b1
    go_wp2
    refine bodyPost_ret (res68 Tryz.results25 _ _ w.heap.size _ _ _ _ _ rfl rfl (heap_four _ _ _ _ hz)) rfl ⟨.inr ⟨HN.out, rfl⟩, ?_⟩
    exact ((((B1.setCell (Nat.le_refl _) _).setCell (Nat.le_refl _) _).setCell (Nat.le_refl _) _).setCell (Nat.le_refl _) _)
end Go.Proofs.YtgalgjmhdbncbaaGreat
