import Derived.Test.YtgalgjmhdbncbabGreatZb17
import Derived.Test.YtgalgjmhdbncbabGreatZb16
import Derived.LaidEql
import Derived.Deep.RegionHeld
namespace Go.Proofs.YtgalgjmhdbncbabGreat
open Go.RowKit
attribute [local go_sem ↓] Go.wp_at_zero Go.wp_at_succ
attribute [local go_sem ↓] al89 stw89 ldw90
attribute [local go_sem] run_al89 run_stT89 stN_hd run_ldT90 ldN_tab blk_new blk_at blk_old blk_drew blk_setCell blk_setRow alloc_setRow

set_option maxRecDepth 100000 in
set_option maxHeartbeats 1000000 in
theorem has_any (g sx : Nat) (H : Nat → Hd) (id : Int) (w : World) (h : TabP w g sx H) :
    Calls Tryz.prog 52 #[ptr g, .int .i64 id] w fun e w' => (((∃ i, i < 8 ∧ hit H id i) ∧ e = .returned (.bool true)) ∨ ((∀ j, j < 8 → ¬ hit H id j) ∧ e = .returned (.bool false))) ∧ Below w.heap.size w w' := by
  have hf := fun w h => find_any g sx H id w h
  unfold ptr at hf ⊢
  have HF : Hid _ := hf
  clear hf
  go_enter Tryz.func52, Tryz.ntmps52
  go_wp2_with fail
  refine (HF.out _ h).mono ?_
  rintro e w1 ⟨⟨i, hi, hh, hm, rfl⟩ | ⟨hn, rfl⟩, b1⟩
  · have HH : Hid _ := And.intro hi hh
    clear hi hh hm
    go_wp2
    go_ret
    exact ⟨.inl ⟨⟨i, HH.out.1, HH.out.2⟩, rfl⟩, b1⟩
  · have HN : Hid _ := hn
    clear hn
    go_wp2
    go_ret
    exact ⟨.inr ⟨HN.out, rfl⟩, b1⟩
set_option maxRecDepth 100000 in
set_option maxHeartbeats 4000000 in
theorem free_any (g sx : Nat) (H : Nat → Hd) (w : World) (h : TabP w g sx H) :
    Calls Tryz.prog 58 #[ptr g] w fun e w' => ((∃ i : Nat, i < 8 ∧ (H i).c.st = 0 ∧ (∀ j, j < i → (H j).c.st ≠ 0) ∧ e = .returned (.tuple #[.int .i64 i, .bool true])) ∨ ((∀ j, j < 8 → (H j).c.st ≠ 0) ∧ e = .returned (.tuple #[.int .i64 0, .bool false]))) ∧ Below w.heap.size w w' := by
  have q := heap_pos h
  unfold ptr
  go_enter Tryz.func58, Tryz.ntmps58
  go_wp2
  go_loopw [4, 5, 10] (fun _ _ i wr => ∃ k : Nat, k ≤ 8 ∧ i = .int .i64 k ∧ (∀ j, j < k → (H j).c.st ≠ 0) ∧ Below w.heap.size w wr) (fun _ _ i _ => 8 - (intOf i).toNat)
  case atStart => exact ⟨0, by omega, rfl, fun j hj => by omega, Below.refl _ _⟩
  case round =>
    obtain ⟨k, hk, rfl, hn, hB⟩ := hrel
    by_cases hk8 : k < 8
    · have ix := fun w => ix90 sx H w k hk8
      have r1 : (wr.alloc (.cells (hdA (H k)) 102)).heap[wr.heap.size]? = some (.cells (hdA (H k)) 102 (0, 0)) := heap_of_new _ _ _ rfl
      obtain ⟨c0, c2⟩ := cells10 r1
      have B2 := hB.alloc hB.size (.cells (hdA (H k)) 102)
      by_cases h0 : (H k).c.st = 0
      · have e0 : (((H k).c.st : Int) == 0) = true := by rw [beq_iff_eq]; omega
        have HN : Hid _ := And.intro h0 hn
        clear hn
        go_wp2
        go_ret2
        exact ⟨.inl ⟨k, hk8, HN.out.1, HN.out.2, rfl⟩, B2⟩
      · have e0 : (((H k).c.st : Int) == 0) = false := by rw [beq_eq_false_iff_ne]; omega
        have hn2 : ∀ j, j < k + 1 → (H j).c.st ≠ 0 := fun j hj => by
          by_cases e : j = k
          · subst e; exact h0
          · exact hn j (by omega)
        have HN : Hid _ := hn2
        clear hn hn2
        go_wp2
        exact ⟨⟨k + 1, by omega, by go_num, HN.out, B2⟩, by simp [intOf]; omega⟩
    · have : k = 8 := by omega
      subst this
      have HN : Hid _ := hn
      clear hn
      go_wp2
      go_ret2
      exact ⟨.inr ⟨HN.out, rfl⟩, hB⟩
def liveP (H : Nat → Hd) (id : Int) (i : Nat) (c : Int) : Prop :=
  (i < 8 ∧ hit H id i ∧ (H i).c.st ≠ 2 ∧ (∀ j, j < i → ¬ hit H id j) ∧ c = 0) ∨ (i = 0 ∧ (∃ k, k < 8 ∧ hit H id k ∧ (∀ j, j < k → ¬ hit H id j) ∧ (H k).c.st = 2) ∧ c = 14) ∨ (i = 0 ∧ (∀ j, j < 8 → ¬ hit H id j) ∧ c = 11)
set_option maxRecDepth 100000 in
set_option maxHeartbeats 4000000 in
theorem live_any (g sx : Nat) (H : Nat → Hd) (id : Int) (w : World) (h : TabP w g sx H) :
    Calls Tryz.prog 65 #[ptr g, .int .i64 id] w fun e w' => (∃ (i : Nat) (c : Int), liveP H id i c ∧ e = .returned (.tuple #[.int .i64 i, .int .i64 c])) ∧ Below w.heap.size w w' := by
  have hf := fun w h => find_any g sx H id w h
  unfold ptr at hf ⊢
  have HF : Hid _ := hf
  clear hf
  go_enter Tryz.func65, Tryz.ntmps65
  go_wp2_with fail
  refine (HF.out _ h).mono ?_
  rintro e w1 ⟨⟨i, hi, hh, hm, rfl⟩ | ⟨hn, rfl⟩, b1⟩
  · have h1 : TabP w1 g sx H := Row.keep h b1 (Row.lt h)
    have c0 : w1.cell? ⟨g, 1 + i * 10, none⟩ = some (.int .i64 (H i).c.st) := h1.at i 0 hi (by omega)
    have HH : Hid _ := And.intro hi (And.intro hh hm)
    clear hh hm h1
    by_cases h2 : (H i).c.st = 2
    · have e2 : (((H i).c.st : Int) == 2) = true := by rw [beq_iff_eq]; omega
      go_wp2
      go_ret2
      exact ⟨⟨0, 14, .inr (.inl ⟨rfl, ⟨i, HH.out.1, HH.out.2.1, HH.out.2.2, h2⟩, rfl⟩), rfl⟩, b1⟩
    · have e2 : (((H i).c.st : Int) == 2) = false := by rw [beq_eq_false_iff_ne]; omega
      go_wp2
      go_ret2
      exact ⟨⟨i, 0, .inl ⟨HH.out.1, HH.out.2.1, h2, HH.out.2.2, rfl⟩, rfl⟩, b1⟩
  · have HN : Hid _ := hn
    clear hn
    go_wp2
    go_ret2
    exact ⟨⟨0, 11, .inr (.inr ⟨rfl, HN.out, rfl⟩), rfl⟩, b1⟩
theorem info92 : ∃ i, Tryz.prog.info? 105 = some i ∧ i.size ≠ 0 := by
  have h : (Tryz.prog.info? 105).map (·.size) = some 81 := by kernel_rfl
  rw [Option.map_eq_some_iff] at h
  obtain ⟨i, hi, e⟩ := h
  exact ⟨i, hi, by omega⟩
theorem neq33_same (g : Nat) (w : World) : Sem.run Tryz.prog (binOp .neq 47 (.pointer (some ⟨g, 0, none⟩)) (.pointer (some ⟨g, 0, none⟩))) w = .ok (.bool false) w := by
  obtain ⟨i, hi, hs⟩ := info92
  have h : ∀ d : Nat, Sem.run Tryz.prog (Op.equalIn (d + 1) 47 (.pointer (some ⟨g, 0, none⟩)) (.pointer (some ⟨g, 0, none⟩))) w = .ok true w := fun d => by
    simp [Op.equalIn, run_underlying Tryz.underlying47, sizeOf, typeInfo, hi, run_sameAddr_same]
  simp only [binOp]
  simp [Op.equal, Op.maxDepth, h 9999]
theorem neq33_other (t g : Nat) (w : World) (hne : t ≠ g) {ca cb : Array Value} {ta tb : TypeId} (ha : w.heap[t]? = some (.cells ca ta (0, 0))) (hb : w.heap[g]? = some (.cells cb tb (0, 0))) :
    Sem.run Tryz.prog (binOp .neq 47 (.pointer (some ⟨t, 0, none⟩)) (.pointer (some ⟨g, 0, none⟩))) w = .ok (.bool true) w := by
  obtain ⟨i, hi, hs⟩ := info92
  have h : ∀ d : Nat, Sem.run Tryz.prog (Op.equalIn (d + 1) 47 (.pointer (some ⟨t, 0, none⟩)) (.pointer (some ⟨g, 0, none⟩))) w = .ok false w := fun d => by
    simp [Op.equalIn, run_underlying Tryz.underlying47, sizeOf, typeInfo, hi, hs, run_sameAddr_other w (a := ⟨t, 0, none⟩) (b := ⟨g, 0, none⟩) (by intro e; exact hne (congrArg Addr.block e)) ha hb]
  simp only [binOp]
  simp [Op.equal, Op.maxDepth, h 9999]
def TabIn (w : World) (S : Sto) : Prop := ∀ t, S.tab = some t → ∃ V, Row w t 81 105 V
set_option maxRecDepth 100000 in
set_option maxHeartbeats 4000000 in
theorem over_any (g sx : Nat) (H : Nat → Hd) (S : Sto) (w : World) (h : TabP w g sx H) (hs : StoP w sx S) (ht : TabIn w S) :
    Calls Tryz.prog 56 #[ptr g] w fun e w' => e = .returned (.bool (decide (S.tab ≠ some g))) ∧ w' = w := by
  have c0 := h.sto
  have c1 := hs.tabAt
  unfold ptr at c0 ⊢
  cases e : S.tab with
  | none =>
    rw [e] at c1
    unfold ptrO at c1
    have hn : Sem.run Tryz.prog (binOp .neq 47 (.pointer none) (.pointer (some ⟨g, 0, none⟩))) w = .ok (.bool true) w := by
      have h : ∀ d : Nat, Sem.run Tryz.prog (Op.equalIn (d + 1) 47 (.pointer none) (.pointer (some ⟨g, 0, none⟩))) w = .ok false w := fun d => by
        simp [Op.equalIn, run_underlying Tryz.underlying47]
      simp only [binOp]
      simp [Op.equal, Op.maxDepth, h 9999]
    go_enter Tryz.func56, Tryz.ntmps56
    go_wp2
    go_ret
    exact ⟨rfl, rfl⟩
  | some t =>
    rw [e] at c1
    unfold ptrO at c1
    by_cases e2 : t = g
    · subst e2
      have hn := neq33_same t w
      rw [decide_eq_false (by simp)]
      go_enter Tryz.func56, Tryz.ntmps56
      go_wp2
      go_ret
      exact ⟨rfl, rfl⟩
    · obtain ⟨V, hV⟩ := ht t e
      have hn := neq33_other t g w e2 hV h
      rw [decide_eq_true (by simp; exact e2)]
      go_enter Tryz.func56, Tryz.ntmps56
      go_wp2
      go_ret
      exact ⟨rfl, rfl⟩
end Go.Proofs.YtgalgjmhdbncbabGreat
namespace Go.Proofs.YtgalgjmhdbncbabGreat
open Go.RowKit
attribute [local go_sem ↓] Go.wp_at_zero Go.wp_at_succ

theorem hdA_of (h : Hd) : hdA h = #[.int .i64 h.c.st, .int .i64 h.c.alg, .int .i64 h.c.id, .string h.c.fix, .int .i64 h.c.seals, .int .i64 h.c.ahead, .int .i64 h.c.most, .int .i64 h.c.res, .string h.c.key, .int .i64 h.ctr] := rfl
theorem stN_hd' (a b c : Int) (f : ByteArray) (d e x h : Int) (k : ByteArray) (m : Int) (g : Nat) (w : World) (r : Result Unit) :
    stN (some (.cells zhdA 102 (0, 0))) 10 (.agg #[.int .i64 a, .int .i64 b, .int .i64 c, .string f, .int .i64 d, .int .i64 e, .int .i64 x, .int .i64 h, .string k, .int .i64 m]) g w r
      = .ok () (w.setRow g #[.int .i64 a, .int .i64 b, .int .i64 c, .string f, .int .i64 d, .int .i64 e, .int .i64 x, .int .i64 h, .string k, .int .i64 m]) := by
  unfold stN
  exact if_pos ⟨rfl, rfl, rfl, by simp [Value.oneCell']⟩
attribute [local go_sem ↓] al89 stw89 al87 stw87
attribute [local go_sem] run_al89 run_stT89 stN_hd' run_al87 run_stT87 stN_cl blk_new blk_at blk_old blk_drew blk_setCell blk_setRow alloc_setRow
set_option maxRecDepth 100000 in
set_option maxHeartbeats 4000000 in
theorem hof_any (c : Cl) (w : World) : Calls Tryz.prog 53 #[.agg (clA c)] w fun e w' => e = .returned (.agg (hdA ⟨c, c.res⟩)) ∧ Below w.heap.size w w' := by
  unfold clA clC
  go_enter Tryz.func53, Tryz.ntmps53
  go_wp2
  have hh : ((w.alloc (.cells (clA c) 100)).alloc (.cells (hdA ⟨c, c.res⟩) 102)).heap[w.heap.size + 1]? = some (.cells (hdA ⟨c, c.res⟩) 102 (0, 0)) := heap_of_new _ _ _ (by simp)
  unfold hdA clA clC at hh
  refine bodyPost_ret (results_cell_row Tryz.results53 _ _ (w.heap.size + 1) 102 (hdA ⟨c, c.res⟩) (0, 0) _ rfl ?_ Tryz.underlying102 rfl (by kernel_rfl)) rfl ⟨rfl, ?_⟩
  · first | exact hh | exact setRow_heap _ _ _ _ 102 _ (heap_of_new _ _ _ (by simp))
  · first | exact ((Below.refl _ w).alloc (Nat.le_refl _) _).alloc (by simp) _ | exact Below.setRow (((Below.refl _ w).alloc (Nat.le_refl _) _).alloc (by simp) _) (by omega) _
structure HdAt (w : World) (g o : Nat) (h : Hd) : Prop where
  c0 : w.cell? ⟨g, o, none⟩ = some (.int .i64 h.c.st)
  c1 : w.cell? ⟨g, o + 1, none⟩ = some (.int .i64 h.c.alg)
  c2 : w.cell? ⟨g, o + 2, none⟩ = some (.int .i64 h.c.id)
  c3 : w.cell? ⟨g, o + 3, none⟩ = some (.string h.c.fix)
  c4 : w.cell? ⟨g, o + 4, none⟩ = some (.int .i64 h.c.seals)
  c5 : w.cell? ⟨g, o + 5, none⟩ = some (.int .i64 h.c.ahead)
  c6 : w.cell? ⟨g, o + 6, none⟩ = some (.int .i64 h.c.most)
  c7 : w.cell? ⟨g, o + 7, none⟩ = some (.int .i64 h.c.res)
  c8 : w.cell? ⟨g, o + 8, none⟩ = some (.string h.c.key)
  c9 : w.cell? ⟨g, o + 9, none⟩ = some (.int .i64 h.ctr)
theorem TabP.hd {w : World} {g sx : Nat} {H : Nat → Hd} (h : TabP w g sx H) (i : Nat) (hi : i < 8) : HdAt w g (1 + i * 10) (H i) :=
  ⟨h.at i 0 hi (by omega), h.at i 1 hi (by omega), h.at i 2 hi (by omega), h.at i 3 hi (by omega), h.at i 4 hi (by omega), h.at i 5 hi (by omega), h.at i 6 hi (by omega), h.at i 7 hi (by omega), h.at i 8 hi (by omega), h.at i 9 hi (by omega)⟩
set_option maxRecDepth 100000 in
set_option maxHeartbeats 4000000 in
theorem spent_any (g o : Nat) (h : Hd) (w : World) (ha : HdAt w g o h) : Calls Tryz.prog 67 #[.pointer (some ⟨g, o, none⟩)] w fun e w' => e = .returned (.bool (decide (h.ctr = h.c.seals))) ∧ Below w.heap.size w w' := by
  have c4 := ha.c4
  have c9 := ha.c9
  have e : decide (h.ctr = h.c.seals) = ((h.ctr : Int) == (h.c.seals : Int)) := by rw [Bool.eq_iff_iff, beq_iff_eq, decide_eq_true_iff]; omega
  rw [e]
  clear e ha
  go_enter Tryz.func67, Tryz.ntmps67
  go_wp2_with fail
  go_region
  go_wp2
  go_ret
  exact ⟨rfl, (Below.refl _ _).drew⟩
set_option maxRecDepth 100000 in
set_option maxHeartbeats 4000000 in
theorem short_any (g o : Nat) (h : Hd) (w : World) (ha : HdAt w g o h) : Calls Tryz.prog 68 #[.pointer (some ⟨g, o, none⟩)] w fun e w' => e = .returned (.bool (decide (h.ctr = h.c.res))) ∧ Below w.heap.size w w' := by
  have c4 := ha.c7
  have c9 := ha.c9
  have e : decide (h.ctr = h.c.res) = ((h.ctr : Int) == (h.c.res : Int)) := by rw [Bool.eq_iff_iff, beq_iff_eq, decide_eq_true_iff]; omega
  rw [e]
  clear e ha
  go_enter Tryz.func68, Tryz.ntmps68
  go_wp2_with fail
  go_region
  go_wp2
  go_ret
  exact ⟨rfl, (Below.refl _ _).drew⟩
def stA (a c r : Int) (t : Bool) : Array Value := #[.int .i64 a, .int .i64 c, .int .i64 r, .bool t]
theorem heap_four {w : World} {g : Nat} {a c r : Int} {t : Bool} (v0 v1 v2 v3 : Value) (h : w.heap[g]? = some (.cells (stA a c r t) 77 (0, 0))) :
    ((((w.setCell ⟨g, 0, none⟩ v0).setCell ⟨g, 1, none⟩ v1).setCell ⟨g, 2, none⟩ v2).setCell ⟨g, 3, none⟩ v3).heap[g]? = some (.cells #[v0, v1, v2, v3] 77 (0, 0)) := by
  have h0 := heap_setCell_same w g 0 _ 77 v0 h
  have h1 := heap_setCell_same _ g 1 _ 77 v1 h0
  have h2 := heap_setCell_same _ g 2 _ 77 v2 h1
  have h3 := heap_setCell_same _ g 3 _ 77 v3 h2
  simpa [stA] using h3
set_option maxRecDepth 100000 in
set_option maxHeartbeats 4000000 in
theorem hstatus_any (g o : Nat) (h : Hd) (w : World) (hg : g < w.heap.size) (ha : HdAt w g o h) : Calls Tryz.prog 77 #[.pointer (some ⟨g, o, none⟩)] w fun e w' => e = .returned (.agg (stA h.c.alg h.ctr h.c.res (decide (h.c.st = 2)))) ∧ Below w.heap.size w w' := by
  obtain ⟨c0, c1, c2, c3, c4, c5, c6, c7, c8, c9⟩ := ha
  have e : decide (h.c.st = 2) = ((h.c.st : Int) == 2) := by rw [Bool.eq_iff_iff, beq_iff_eq, decide_eq_true_iff]; omega
  rw [e]
  clear e c2 c3 c4 c5 c6 c8
  have k0 := (Below.refl w.heap.size w).alloc (Nat.le_refl _) (.cells (stA 0 0 0 false) 77)
  have hz : (w.alloc (.cells (stA 0 0 0 false) 77)).heap[w.heap.size]? = some (.cells (stA 0 0 0 false) 77 (0, 0)) := heap_of_new _ _ _ rfl
  rw [← k0.cell (p := ⟨g, o, none⟩) hg] at c0
  rw [← k0.cell (p := ⟨g, o + 1, none⟩) hg] at c1
  rw [← k0.cell (p := ⟨g, o + 7, none⟩) hg] at c7
  rw [← k0.cell (p := ⟨g, o + 9, none⟩) hg] at c9
  go_enter Tryz.func77, Tryz.ntmps77
  go_wp2_with fail
  suffices HH : ∀ W, W.cell? ⟨g, o, none⟩ = some (.int .i64 h.c.st) → W.cell? ⟨g, o + 1, none⟩ = some (.int .i64 h.c.alg) → W.cell? ⟨g, o + 7, none⟩ = some (.int .i64 h.c.res) → W.cell? ⟨g, o + 9, none⟩ = some (.int .i64 h.ctr) → W.heap[w.heap.size]? = some (.cells (stA 0 0 0 false) 77 (0, 0)) → Below w.heap.size w W → Code.wp Tryz.prog _ _ _ W from HH _ c0 c1 c7 c9 hz k0
  clear c0 c1 c7 c9 hz k0
  intro W c0 c1 c7 c9 hz hB
  have z0 : W.cell? ⟨w.heap.size, 0, none⟩ = some (.int .i64 0) := by rw [cell_of_row _ _ 0 _ _ _ hz]; rfl
  have z1 : W.cell? ⟨w.heap.size, 1, none⟩ = some (.int .i64 0) := by rw [cell_of_row _ _ 1 _ _ _ hz]; rfl
  have z2 : W.cell? ⟨w.heap.size, 2, none⟩ = some (.int .i64 0) := by rw [cell_of_row _ _ 2 _ _ _ hz]; rfl
  have z3 : W.cell? ⟨w.heap.size, 3, none⟩ = some (.bool false) := by rw [cell_of_row _ _ 3 _ _ _ hz]; rfl
  have f0 := fun j => frozen_of_row _ _ j _ _ hz
  go_region
  go_wp2
  refine bodyPost_ret (results_cell_row Tryz.results77 _ _ w.heap.size 77 _ (0, 0) _ rfl (heap_four _ _ _ _ hz) Tryz.underlying77 rfl (by kernel_rfl)) rfl ⟨rfl, ?_⟩
  exact ((((hB.setCell (Nat.le_refl _) _).setCell (Nat.le_refl _) _).setCell (Nat.le_refl _) _).setCell (Nat.le_refl _) _).drew
theorem cells4 {w : World} {g : Nat} {a c r : Int} {t : Bool} (h : w.heap[g]? = some (.cells (stA a c r t) 77 (0, 0))) : w.cell? ⟨g, 0, none⟩ = some (.int .i64 a) ∧ w.cell? ⟨g, 1, none⟩ = some (.int .i64 c) ∧ w.cell? ⟨g, 2, none⟩ = some (.int .i64 r) ∧ w.cell? ⟨g, 3, none⟩ = some (.bool t) := by
  refine ⟨?_, ?_, ?_, ?_⟩
  · rw [cell_of_row _ _ 0 _ _ _ h]; rfl
  · rw [cell_of_row _ _ 1 _ _ _ h]; rfl
  · rw [cell_of_row _ _ 2 _ _ _ h]; rfl
  · rw [cell_of_row _ _ 3 _ _ _ h]; rfl
theorem res68 {fn : Func} {p u : Tmp} (h : fn.results = #[.cell p 77, .tmp u]) (tmps : Array Value) (w : World) (g : Nat) (v0 v1 v2 v3 : Value) (v : Value)
    (hp : tmps.getD p undef = .pointer (some ⟨g, 0, none⟩)) (hv : tmps.getD u undef = v) (hg : w.heap[g]? = some (.cells #[v0, v1, v2, v3] 77 (0, 0))) : (results fn tmps).run Tryz.prog w = .ok (.tuple #[.agg #[v0, v1, v2, v3], v]) w := by
  have hp' : tmps[p]?.getD undef = .pointer (some ⟨g, 0, none⟩) := by simpa using hp
  have hv' : tmps[u]?.getD undef = v := by simpa using hv
  have hl := run_loadVar_row (P := Tryz.prog) w g 77 77 _ (0, 0) _ hg Tryz.underlying77 rfl (by kernel_rfl)
  simp [results, h, hp', hv', asAddr, hl]
set_option maxRecDepth 100000 in
set_option maxHeartbeats 4000000 in
theorem status_any (g sx : Nat) (H : Nat → Hd) (id : Int) (w : World) (h : TabP w g sx H) :
    Calls Tryz.prog 35 #[ptr g, .int .i64 id] w fun e w' => ((∃ i, i < 8 ∧ hit H id i ∧ (∀ j, j < i → ¬ hit H id j) ∧ e = .returned (.tuple #[.agg (stA (H i).c.alg (H i).ctr (H i).c.res (decide ((H i).c.st = 2))), .int .i64 0])) ∨ ((∀ j, j < 8 → ¬ hit H id j) ∧ e = .returned (.tuple #[.agg (stA 0 0 0 false), .int .i64 11]))) ∧ Below w.heap.size w w' := by
  have hf := fun w h => find_any g sx H id w h
  have hlt := Row.lt h
  unfold ptr at hf ⊢
  have HF : Hid _ := hf
  clear hf
  have h1 : TabP (w.alloc (.cells (stA 0 0 0 false) 77)) g sx H := Row.alloc h _
  have k0 := (Below.refl w.heap.size w).alloc (Nat.le_refl _) (.cells (stA 0 0 0 false) 77)
  have hz0 : (w.alloc (.cells (stA 0 0 0 false) 77)).heap[w.heap.size]? = some (.cells (stA 0 0 0 false) 77 (0, 0)) := heap_of_new _ _ _ rfl
  go_enter Tryz.func35, Tryz.ntmps35
  go_wp2_with fail
  refine (HF.out _ h1).mono ?_
  rintro e w1 ⟨⟨i, hi, hh, hm, rfl⟩ | ⟨hn, rfl⟩, b1⟩
  · have h2 : TabP w1 g sx H := Row.keep h1 b1 (Row.lt h1)
    have hz : w1.heap[w.heap.size]? = some (.cells (stA 0 0 0 false) 77 (0, 0)) := by rw [b1.block _ (by simp)]; exact hz0
    have B1 : Below w.heap.size w w1 := k0.trans (b1.mono (by simp))
    have hs := hstatus_any g (1 + i * 10) (H i) w1 (Row.lt h2) (h2.hd i hi)
    have HH : Hid _ := And.intro hi (And.intro hh hm)
    unfold stA at hs
    have HS : Hid _ := hs
    have y1 : w.heap.size < w1.heap.size := by have := b1.size; simp at this; omega
    clear hs hh hm h1 k0 hz0 b1
    go_wp2_with fail
    refine Calls.mono HS.out ?_
    rintro e w2 ⟨rfl, b2⟩
    have hz2 : w2.heap[w.heap.size]? = some (.cells (stA 0 0 0 false) 77 (0, 0)) := by rw [b2.block _ y1]; exact hz
    obtain ⟨z0, z1, z2, z3⟩ := cells4 hz2
    have f0 := fun j => frozen_of_row _ _ j _ _ hz2
    have B2 := B1.trans (b2.mono B1.size)
    clear HS hz
    go_wp2
    refine bodyPost_ret (res68 Tryz.results35 _ _ w.heap.size _ _ _ _ _ rfl rfl (heap_four _ _ _ _ hz2)) rfl ⟨.inl ⟨i, HH.out.1, HH.out.2.1, HH.out.2.2, rfl⟩, ?_⟩
    exact ((((B2.setCell (Nat.le_refl _) _).setCell (Nat.le_refl _) _).setCell (Nat.le_refl _) _).setCell (Nat.le_refl _) _)
  · have hz : w1.heap[w.heap.size]? = some (.cells (stA 0 0 0 false) 77 (0, 0)) := by rw [b1.block _ (by simp)]; exact hz0
    obtain ⟨z0, z1, z2, z3⟩ := cells4 hz
    have f0 := fun j => frozen_of_row _ _ j _ _ hz
    have B1 : Below w.heap.size w w1 := k0.trans (b1.mono (by simp))
    have HN : Hid _ := hn
    clear hn h1 k0 hz0 b1
    go_wp2
    refine bodyPost_ret (res68 Tryz.results35 _ _ w.heap.size _ _ _ _ _ rfl rfl (heap_four _ _ _ _ hz)) rfl ⟨.inr ⟨HN.out, rfl⟩, ?_⟩
    exact ((((B1.setCell (Nat.le_refl _) _).setCell (Nat.le_refl _) _).setCell (Nat.le_refl _) _).setCell (Nat.le_refl _) _)
end Go.Proofs.YtgalgjmhdbncbabGreat
