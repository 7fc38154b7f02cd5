import Derived.Test.YtgalgjmhdbncbaaGreatZf28
import Derived.Deep.RegionHeld
namespace Go.Proofs.YtgalgjmhdbncbaaGreat
open Go.RowKit
attribute [local go_sem ↓] Go.wp_at_zero Go.wp_at_succ
attribute [local go_sem ↓] bs_wrap cv_wrap

def zrec : Array Value := #[.int .i64 0, .int .i64 0, .string ⟨#[]⟩, .string ⟨#[]⟩, .string ⟨#[]⟩]
theorem zero_cells {w : World} {g : Nat} (h : w.heap[g]? = some (.cells zrec 52 (0, 0))) : w.cell? ⟨g, 0, none⟩ = some (.int .i64 0) ∧ w.cell? ⟨g, 1, none⟩ = some (.int .i64 0) ∧ w.cell? ⟨g, 2, none⟩ = some (.string ⟨#[]⟩) ∧ w.cell? ⟨g, 3, none⟩ = some (.string ⟨#[]⟩) ∧ w.cell? ⟨g, 4, none⟩ = some (.string ⟨#[]⟩) := by
  refine ⟨?_, ?_, ?_, ?_, ?_⟩
  · rw [cell_of_row _ _ 0 _ _ _ h]; rfl
  · rw [cell_of_row _ _ 1 _ _ _ h]; rfl
  · rw [cell_of_row _ _ 2 _ _ _ h]; rfl
  · rw [cell_of_row _ _ 3 _ _ _ h]; rfl
  · rw [cell_of_row _ _ 4 _ _ _ h]; rfl
theorem heap_five {w : World} {g : Nat} (v0 v1 v2 v3 v4 : Value) (h : w.heap[g]? = some (.cells zrec 52 (0, 0))) :
    (((((w.setCell ⟨g, 0, none⟩ v0).setCell ⟨g, 1, none⟩ v1).setCell ⟨g, 2, none⟩ v2).setCell ⟨g, 3, none⟩ v3).setCell ⟨g, 4, none⟩ v4).heap[g]? = some (.cells #[v0, v1, v2, v3, v4] 52 (0, 0)) := by
  have h0 := heap_setCell_same w g 0 _ 52 v0 h
  have h1 := heap_setCell_same _ g 1 _ 52 v1 h0
  have h2 := heap_setCell_same _ g 2 _ 52 v2 h1
  have h3 := heap_setCell_same _ g 3 _ 52 v3 h2
  have h4 := heap_setCell_same _ g 4 _ 52 v4 h3
  simpa [zrec] using h4
theorem conv_at (w : World) (g m off n cap : Nat) (f : Nat → UInt8) (h : By w g m f) (hm : off + n ≤ m) : (convert 105 9 (.slice (some ⟨g, off, none⟩) n cap)).run Tryz.prog w = .ok (.string (str n fun j => f (off + j))) w := by
  have := run_convert_bytes_back (P := Tryz.prog) w 105 9 5 ⟨g, off, none⟩ cap ((List.range n).map fun j => f (off + j)) Tryz.underlying105 Tryz.underlying5 Tryz.underlying9 (fun j hj => by
    have hj' : j < n := by simpa using hj
    have hadd : (⟨g, off, none⟩ : Addr).add j = ⟨g, off + j, none⟩ := by unfold Addr.add; split <;> simp_all
    rw [hadd, (h.2 (off + j) (by omega)).1]
    simp)
  simpa [str] using this
structure SPy (w0 w : World) (n0 g gp V : Nat) (f : Nat → UInt8) : Prop where
  pc : w.heap[gp]? = some (.cells (partsV g V) 155 (0, 0))
  bs : By w g (36 + V) f
  l1 : n0 < g
  l2 : n0 < gp
  bl : Below n0 w0 w
theorem SPy.drew {w0 w : World} {n0 g gp V : Nat} {f : Nat → UInt8} (h : SPy w0 w n0 g gp V f) : SPy w0 w.drew n0 g gp V f := ⟨h.pc, h.bs, h.l1, h.l2, h.bl.drew⟩
theorem SPy.set {w0 w : World} {n0 g gp V o : Nat} {v : Value} {f : Nat → UInt8} (h : SPy w0 w n0 g gp V f) : SPy w0 (w.setCell ⟨n0, o, none⟩ v) n0 g gp V f :=
  ⟨by rw [heap_skip _ _ _ _ _ (by have := h.l2; omega)]; exact h.pc, h.bs.other (by have := h.l1; omega), h.l1, h.l2, h.bl.setCell (Nat.le_refl _) _⟩
theorem SPy.cell {w0 w : World} {n0 g gp V : Nat} {f : Nat → UInt8} (h : SPy w0 w n0 g gp V f) :
    w.cell? ⟨gp, 0, none⟩ = some (.slice (some ⟨g, 0, none⟩) 3 3) ∧ w.cell? ⟨gp, 1, none⟩ = some (.slice (some ⟨g, 3, none⟩) 1 1) ∧ w.cell? ⟨gp, 2, none⟩ = some (.slice (some ⟨g, 4, none⟩) 2 2) ∧ w.cell? ⟨gp, 3, none⟩ = some (.slice (some ⟨g, 6, none⟩) 12 12) ∧
    w.cell? ⟨gp, 4, none⟩ = some (.slice (some ⟨g, 18, none⟩) 2 2) ∧ w.cell? ⟨gp, 5, none⟩ = some (.slice (some ⟨g, bo V, none⟩) V V) ∧ w.cell? ⟨gp, 6, none⟩ = some (.slice (some ⟨g, 20 + V, none⟩) 16 16) := by
  refine ⟨?_, ?_, ?_, ?_, ?_, ?_, ?_⟩
  · rw [cell_of_row _ _ 0 _ _ _ h.pc]; rfl
  · rw [cell_of_row _ _ 1 _ _ _ h.pc]; rfl
  · rw [cell_of_row _ _ 2 _ _ _ h.pc]; rfl
  · rw [cell_of_row _ _ 3 _ _ _ h.pc]; rfl
  · rw [cell_of_row _ _ 4 _ _ _ h.pc]; rfl
  · rw [cell_of_row _ _ 5 _ _ _ h.pc]; rfl
  · rw [cell_of_row _ _ 6 _ _ _ h.pc]; rfl
theorem res41 {fn : Func} {p u x : Tmp} (h : fn.results = #[.cell p 52, .tmp u, .tmp x]) (tmps : Array Value) (w : World) (g : Nat) (v0 v1 v2 v3 v4 a b : Value)
    (hp : tmps.getD p undef = .pointer (some ⟨g, 0, none⟩)) (ha : tmps.getD u undef = a) (hb : tmps.getD x undef = b) (hg : w.heap[g]? = some (.cells #[v0, v1, v2, v3, v4] 52 (0, 0))) :
    (results fn tmps).run Tryz.prog w = .ok (.tuple #[.agg #[v0, v1, v2, v3, v4], a, b]) w := by
  have hp' : tmps[p]?.getD undef = .pointer (some ⟨g, 0, none⟩) := by simpa using hp
  have ha' : tmps[u]?.getD undef = a := by simpa using ha
  have hb' : tmps[x]?.getD undef = b := by simpa using hb
  have hl := run_loadVar_row (P := Tryz.prog) w g 52 52 _ (0, 0) _ hg Tryz.underlying52 rfl (by kernel_rfl)
  simp [results, h, hp', ha', hb', asAddr, hl]
theorem wrap_small (n : Nat) (h : n < 100000) : IntKind.i64.wrap (n : Int) = (n : Int) := by
  have := wrap_i64_ediv (n : Int) 1 (by omega) (by omega) (by omega)
  rwa [Int.ediv_one] at this
theorem cut_str (s : ByteArray) (i j : Nat) (h : j ≤ s.size) (hij : i ≤ j) : (str (j - i) fun x => sf s (i + x)) = s.extract i j := by
  apply bytes_ext
  · rw [str_size, cut_size _ _ _ h]
  · intro x hx
    rw [str_size] at hx
    rw [sf_str _ _ _ hx, sf_cut _ _ _ _ h (by omega)]
set_option maxRecDepth 100000 in
set_option maxHeartbeats 1000000 in
theorem rparse_bad (s : ByteArray) (p : Nat) (hs : s.size ≤ maxLen) (h : badAt s = some p) (w : World) :
    Calls Tryz.prog 54 #[.string s] w fun e w' => e = .returned (.tuple #[.agg zrec, .int .i64 p, .bool false]) ∧ Below w.heap.size w w' := by
  have hf := fun w => fault_any s hs w
  have e : faultV s = .tuple #[.int .i64 p, .bool true] := by unfold faultV; rw [h]
  rw [e] at hf
  have HF : Hid _ := hf
  clear hf h hs e
  go_enter Tryz.func54, Tryz.ntmps54
  go_wp2_with fail
  refine (HF.out _).mono ?_
  rintro e w1 ⟨rfl, b1⟩
  have r1 : w1.heap[w.heap.size]? = some (.cells zrec 52 (0, 0)) := by rw [b1.block _ (by simp)]; exact heap_of_new _ _ _ rfl
  have B1 : Below w.heap.size w w1 := ((Below.refl _ w).alloc (Nat.le_refl _) _).trans (b1.mono (by simp))
  obtain ⟨z0, z1, z2, z3, z4⟩ := zero_cells r1
  have f0 := fun j => frozen_of_row _ _ j _ _ r1
  go_wp2
  refine bodyPost_ret (v := .tuple #[.agg zrec, .int .i64 p, .bool false]) (res41 Tryz.results54 _ _ w.heap.size _ _ _ _ _ _ _ rfl rfl rfl (heap_five _ _ _ _ _ r1)) rfl ⟨rfl, ?_⟩
  exact ((((B1.setCell (Nat.le_refl _) _).setCell (Nat.le_refl _) _).setCell (Nat.le_refl _) _).setCell (Nat.le_refl _) _).setCell (Nat.le_refl _) _
set_option maxRecDepth 100000 in
set_option maxHeartbeats 4000000 in
theorem rparse_ok (s : ByteArray) (hs : s.size ≤ maxLen) (h : badAt s = none) (w : World) :
    Calls Tryz.prog 54 #[.string s] w fun e w' => e = .returned (.tuple #[recV (sf s 3).toNat (valF (sf s) 4 2) (s.extract 6 18) (s.extract 20 (20 + (sf s 19).toNat)) (s.extract (20 + (sf s 19).toNat) (36 + (sf s 19).toNat)), .int .i64 0, .bool true]) ∧ Below w.heap.size w w' := by
  have hf := fun w => fault_any s hs w
  have e : faultV s = .tuple #[.int .i64 s.size, .bool false] := by unfold faultV; rw [h]
  rw [e] at hf
  have HF : Hid _ := hf
  have hR := bad_none s h
  have hz := hR.z
  have hV2 := (sf s 19).toNat_lt
  obtain ⟨V, hV⟩ : ∃ V, (sf s 19).toNat = V := ⟨_, rfl⟩
  rw [hV] at hz hV2 ⊢
  obtain ⟨A, hA⟩ : ∃ A, (sf s 3).toNat = A := ⟨_, rfl⟩
  obtain ⟨I, hI⟩ : ∃ I, valF (sf s) 4 2 = I := ⟨_, rfl⟩
  have hA2 : A < 256 := by rw [← hA]; exact (sf s 3).toNat_lt
  have hI2 : I < 65536 := by
    have := valF_lt (sf s) 4 2
    have e : (256 : Nat) ^ 2 = 65536 := rfl
    omega
  have HA : Hid (valF (sf s) 3 1 = A) := by show valF (sf s) 3 1 = A; rw [← hA]; simp [valF]
  have HI : Hid (valF (sf s) 4 2 = I) := hI
  have hbo : bo V + V ≤ 36 + V := by unfold bo; split <;> omega
  have hwA : IntKind.i64.wrap (A : Int) = (A : Int) := wrap_small A (by omega)
  have hwI : IntKind.i64.wrap (I : Int) = (I : Int) := wrap_small I (by omega)
  have HX : Hid (recV A I (str 12 fun j => sf s (6 + j)) (str V fun j => sf s (bo V + j)) (str 16 fun j => sf s (20 + V + j)) = recV A I (s.extract 6 18) (s.extract 20 (20 + V)) (s.extract (20 + V) (36 + V))) := by
    have e1 : (str 12 fun j => sf s (6 + j)) = s.extract 6 18 := cut_str s 6 18 (by omega) (by omega)
    have e2 : (str V fun j => sf s (bo V + j)) = s.extract 20 (20 + V) := by
      have e := cut_str s 20 (20 + V) (by omega) (by omega)
      rw [Nat.add_sub_cancel_left] at e
      rw [← e]
      apply str_congr
      intro j hj
      unfold bo
      rw [if_neg (by omega)]
    have e3 : (str 16 fun j => sf s (20 + V + j)) = s.extract (20 + V) (36 + V) := by
      have e := cut_str s (20 + V) (36 + V) (by omega) (by omega)
      rwa [show 36 + V - (20 + V) = 16 by omega] at e
    show _ = _
    rw [e1, e2, e3]
  rw [hA, hI]
  clear hf h hs e hR hV hA hI
  go_enter Tryz.func54, Tryz.ntmps54
  go_wp2_with fail
  refine (HF.out _).mono ?_
  rintro e w2 ⟨rfl, b2⟩
  have r2 : w2.heap[w.heap.size]? = some (.cells zrec 52 (0, 0)) := by rw [b2.block _ (by simp)]; exact heap_of_new _ _ _ rfl
  have B2 : Below w.heap.size w w2 := ((Below.refl _ w).alloc (Nat.le_refl _) _).trans (b2.mono (by simp))
  have y2 := b2.size
  simp at y2
  clear b2 HF
  obtain ⟨cap, o, hcap, hrun, hBy⟩ := bs_run s w2
  replace hrun : Sem.run Tryz.prog (Bs (.string s)) w2 = _ := hrun
  rw [hz] at hrun hBy hcap
  have HBy : Hid _ := hBy
  clear hBy
  go_wp2_with fail
  have hct := fun W => cut_any w2.heap.size V cap (by omega) hcap W
  unfold partsV at hct
  refine (hct _).mono ?_
  clear hct
  rintro e w3 ⟨rfl, b3⟩
  have y3 := b3.size
  simp at y3
  have S1 : SPy w (w3.alloc (.cells (partsV w2.heap.size V) 155)) w.heap.size w2.heap.size w3.heap.size V (sf s) := by
    refine ⟨heap_of_new _ _ _ rfl, (By.keep HBy.out b3 (by simp)).alloc _, by omega, by omega, ?_⟩
    exact (((B2.alloc B2.size o).drew.trans (b3.mono (by have := B2.size; simp; omega)))).alloc (by have := B2.size; omega) _
  have R0 : Hid ((w3.alloc (.cells (partsV w2.heap.size V) 155)).drew.heap[w.heap.size]? = some (.cells zrec 52 (0, 0))) := by
    refine heap_of_old w3 _ _ _ (by omega) ?_
    rw [b3.block _ (by simp; omega)]
    exact heap_of_old w2.drew _ _ _ (by show _ < w2.heap.size; omega) r2
  clear b3 HBy r2 B2 hrun
  go_wp2_with fail
  suffices H : ∀ W, SPy w W w.heap.size w2.heap.size w3.heap.size V (sf s) → W.heap[w.heap.size]? = some (.cells zrec 52 (0, 0)) → Code.wp Tryz.prog _ _ _ W from H _ S1 R0.out
  clear S1 R0
  intro W S1 r0
  have R0 : Hid _ := r0
  have HS1 : Hid _ := S1
  clear r0
  refine wp_region_held_drew (S := fun W' => SPy w W' w.heap.size w2.heap.size w3.heap.size V (sf s)) (by kernel_rfl) S1.drew (fun hHeld => ?_)
  refine wpAnyH_take (i := 0) (v := ?v1) rfl (by kernel_rfl) (by kernel_rfl) (by kernel_rfl) (fun _ _ _ h => h) (Or.inl ⟨by rfl, ?y1⟩) (by assumption) ?r1
  case y1 => (intro W' hW; go_simp; try with_reducible rfl)
  refine wpAnyH_take (i := 1) (v := ?v2) rfl (by kernel_rfl) (by kernel_rfl) (by kernel_rfl) (fun _ _ _ h => h) (Or.inl ⟨by rfl, ?y2⟩) (by assumption) ?r2
  case y2 => (intro W' hW; obtain ⟨p0, p1, p2, p3, p4, p5, p6⟩ := SPy.cell hW; go_simp; try with_reducible rfl)
  refine wpAnyH_take (i := 4) (v := ?v3) rfl (by kernel_rfl) (by kernel_rfl) (by kernel_rfl) (fun _ _ _ h => h) (Or.inl ⟨by rfl, ?y3⟩) (by assumption) ?r3
  case y3 => (intro W' hW; go_simp; try with_reducible rfl)
  refine wpAnyH_take (i := 5) (v := ?v4) rfl (by kernel_rfl) (by kernel_rfl) (by kernel_rfl) (fun _ _ _ h => h) (Or.inl ⟨by rfl, ?y4⟩) (by assumption) ?r4
  case y4 => (intro W' hW; obtain ⟨p0, p1, p2, p3, p4, p5, p6⟩ := SPy.cell hW; go_simp; try with_reducible rfl)
  refine wpAnyH_take (i := 8) (v := ?v5) rfl (by kernel_rfl) (by kernel_rfl) (by kernel_rfl) (fun _ _ _ h => h) (Or.inl ⟨by rfl, ?y5⟩) (by assumption) ?r5
  case y5 => (intro W' hW; go_simp; try with_reducible rfl)
  refine wpAnyH_take (i := 9) (v := ?v6) rfl (by kernel_rfl) (by kernel_rfl) (by kernel_rfl) (fun _ _ _ h => h) (Or.inl ⟨by rfl, ?y6⟩) (by assumption) ?r6
  case y6 => (intro W' hW; obtain ⟨p0, p1, p2, p3, p4, p5, p6⟩ := SPy.cell hW; go_simp; try with_reducible rfl)
  refine wpAnyH_take (i := 10) (v := ?v7) rfl (by kernel_rfl) (by kernel_rfl) (by kernel_rfl) (fun _ _ _ h => h) (Or.inl ⟨by rfl, ?y7⟩) (by assumption) ?r7
  case y7 => (intro W' hW; have hc : Sem.run Tryz.prog (Cv8 (.slice (some ⟨w2.heap.size, 6, none⟩) 12 12)) W' = _ := conv_at W' w2.heap.size (36 + V) (6) 12 12 (sf s) (SPy.bs hW) (by omega); go_simp; try with_reducible rfl)
  refine wpAnyH_take (i := 11) (v := ?v8) rfl (by kernel_rfl) (by kernel_rfl) (by kernel_rfl) (fun _ _ _ h => h) (Or.inl ⟨by rfl, ?y8⟩) (by assumption) ?r8
  case y8 => (intro W' hW; go_simp; try with_reducible rfl)
  refine wpAnyH_take (i := 12) (v := ?v9) rfl (by kernel_rfl) (by kernel_rfl) (by kernel_rfl) (fun _ _ _ h => h) (Or.inl ⟨by rfl, ?y9⟩) (by assumption) ?r9
  case y9 => (intro W' hW; obtain ⟨p0, p1, p2, p3, p4, p5, p6⟩ := SPy.cell hW; go_simp; try with_reducible rfl)
  refine wpAnyH_take (i := 13) (v := ?v10) rfl (by kernel_rfl) (by kernel_rfl) (by kernel_rfl) (fun _ _ _ h => h) (Or.inl ⟨by rfl, ?y10⟩) (by assumption) ?r10
  case y10 => (intro W' hW; have hc : Sem.run Tryz.prog (Cv8 (.slice (some ⟨w2.heap.size, bo V, none⟩) V V)) W' = _ := conv_at W' w2.heap.size (36 + V) (bo V) V V (sf s) (SPy.bs hW) (by have := hbo; omega); go_simp; try with_reducible rfl)
  refine wpAnyH_take (i := 14) (v := ?v11) rfl (by kernel_rfl) (by kernel_rfl) (by kernel_rfl) (fun _ _ _ h => h) (Or.inl ⟨by rfl, ?y11⟩) (by assumption) ?r11
  case y11 => (intro W' hW; go_simp; try with_reducible rfl)
  refine wpAnyH_take (i := 15) (v := ?v12) rfl (by kernel_rfl) (by kernel_rfl) (by kernel_rfl) (fun _ _ _ h => h) (Or.inl ⟨by rfl, ?y12⟩) (by assumption) ?r12
  case y12 => (intro W' hW; obtain ⟨p0, p1, p2, p3, p4, p5, p6⟩ := SPy.cell hW; go_simp; try with_reducible rfl)
  refine wpAnyH_take (i := 16) (v := ?v13) rfl (by kernel_rfl) (by kernel_rfl) (by kernel_rfl) (fun _ _ _ h => h) (Or.inl ⟨by rfl, ?y13⟩) (by assumption) ?r13
  case y13 => (intro W' hW; have hc : Sem.run Tryz.prog (Cv8 (.slice (some ⟨w2.heap.size, 20 + V, none⟩) 16 16)) W' = _ := conv_at W' w2.heap.size (36 + V) (20 + V) 16 16 (sf s) (SPy.bs hW) (by omega); go_simp; try with_reducible rfl)
  refine wpAnyH_ready (rs := [2]) (by kernel_rfl) (by simp) ?_
  refine AllReadyH.cons rfl (fun K hK => ?_) AllReadyH.nil
  go_simp
  refine (nof_cells w2.heap.size 3 1 1 (sf s) (by omega) (by omega) _ (fun j hj => ((SPy.bs hHeld).2 (3 + j) (by omega)).1)).mono ?_
  rintro e wa ⟨rfl, hw⟩
  subst hw
  go_wp2_with fail
  refine hK.out _ _ hHeld (fun hHeld => ?_)
  clear hK K
  rw [HA.out]
  refine wpAnyH_take (i := 3) (v := ?v14) rfl (by kernel_rfl) (by kernel_rfl) (by kernel_rfl) (fun _ _ _ h => h) (Or.inl ⟨by rfl, ?y14⟩) (by assumption) ?r14
  case y14 => (intro W' hW; go_simp; try with_reducible rfl)
  refine wpAnyH_ready (rs := [6]) (by kernel_rfl) (by simp) ?_
  refine AllReadyH.cons rfl (fun K hK => ?_) AllReadyH.nil
  go_simp
  refine (nof_cells w2.heap.size 4 2 2 (sf s) (by omega) (by omega) _ (fun j hj => ((SPy.bs hHeld).2 (4 + j) (by omega)).1)).mono ?_
  rintro e wa ⟨rfl, hw⟩
  subst hw
  go_wp2_with fail
  refine hK.out _ _ hHeld (fun hHeld => ?_)
  clear hK K
  rw [HI.out]
  refine wpAnyH_take (i := 7) (v := ?v15) rfl (by kernel_rfl) (by kernel_rfl) (by kernel_rfl) (fun _ _ _ h => h) (Or.inl ⟨by rfl, ?y15⟩) (by assumption) ?r15
  case y15 => (intro W' hW; go_simp; try with_reducible rfl)
  refine wpAnyH_take (i := 17) (v := ?v16) rfl (by kernel_rfl) (by kernel_rfl) (by kernel_rfl) (fun _ _ _ h => h) (Or.inl ⟨by rfl, ?y16⟩) (by assumption) ?r16
  case y16 => (intro W' hW; go_simp; try with_reducible rfl)
  refine wpAnyH_ready (rs := [18]) (by kernel_rfl) (by simp) ?_
  refine AllReadyH.cons rfl (fun K hK => ?_) AllReadyH.nil
  obtain ⟨z0, z1, z2, z3, z4⟩ := zero_cells R0.out
  have f0 := fun j => frozen_of_row _ _ j _ _ R0.out
  go_simp
  refine hK.out _ _ (SPy.drew (SPy.set (SPy.set (SPy.set (SPy.set (SPy.set HS1.out)))))) (fun hHeld => ?_)
  clear hK K
  clear z0 z1 z2 z3 z4 f0
  refine wpAnyH_take (i := 19) (v := ?v17) rfl (by kernel_rfl) (by kernel_rfl) (by kernel_rfl) (fun _ _ _ h => h) (Or.inl ⟨by rfl, ?y17⟩) (by assumption) ?r17
  case y17 => (intro W' hW; go_simp; try with_reducible rfl)
  refine wpAnyH_take (i := 20) (v := ?v18) rfl (by kernel_rfl) (by kernel_rfl) (by kernel_rfl) (fun _ _ _ h => h) (Or.inl ⟨by rfl, ?y18⟩) (by assumption) ?r18
  case y18 => (intro W' hW; go_simp; try with_reducible rfl)
  refine wpAnyH_done (by kernel_rfl) ?_ _
  have hh : (((((W.setCell ⟨w.heap.size, 0, none⟩ (.int .i64 (A : Int))).setCell ⟨w.heap.size, 1, none⟩ (.int .i64 (I : Int))).setCell ⟨w.heap.size, 2, none⟩ (.string (str 12 fun j => sf s (6 + j)))).setCell ⟨w.heap.size, 3, none⟩ (.string (str V fun j => sf s (bo V + j)))).setCell ⟨w.heap.size, 4, none⟩ (.string (str 16 fun j => sf s (20 + V + j)))).drew.heap[w.heap.size]? = some (.cells #[(.int .i64 (A : Int)), (.int .i64 (I : Int)), (.string (str 12 fun j => sf s (6 + j))), (.string (str V fun j => sf s (bo V + j))), (.string (str 16 fun j => sf s (20 + V + j)))] 52 (0, 0)) := by rw [heap_drew]; exact heap_five (.int .i64 (A : Int)) (.int .i64 (I : Int)) (.string (str 12 fun j => sf s (6 + j))) (.string (str V fun j => sf s (bo V + j))) (.string (str 16 fun j => sf s (20 + V + j))) R0.out
  have hB := SPy.bl hHeld
  generalize (((((W.setCell ⟨w.heap.size, 0, none⟩ (.int .i64 (A : Int))).setCell ⟨w.heap.size, 1, none⟩ (.int .i64 (I : Int))).setCell ⟨w.heap.size, 2, none⟩ (.string (str 12 fun j => sf s (6 + j)))).setCell ⟨w.heap.size, 3, none⟩ (.string (str V fun j => sf s (bo V + j)))).setCell ⟨w.heap.size, 4, none⟩ (.string (str 16 fun j => sf s (20 + V + j)))).drew = WW at *
  clear hHeld HS1 R0
  go_wp2
  refine bodyPost_ret (res41 Tryz.results54 _ _ w.heap.size _ _ _ _ _ _ _ rfl rfl rfl hh) rfl ⟨?_, hB⟩
  rw [← HX.out]
  rfl
end Go.Proofs.YtgalgjmhdbncbaaGreat
namespace Go.Proofs.YtgalgjmhdbncbaaGreat
open Go.RowKit
attribute [local go_sem ↓] Go.wp_at_zero Go.wp_at_succ

theorem new41 (w : World) (v0 v1 v2 v3 v4 : Value) : (w.alloc (.cells #[v0, v1, v2, v3, v4] 52)).heap[w.heap.size]? = some (.cells #[v0, v1, v2, v3, v4] 52 (0, 0)) := heap_of_new _ _ _ rfl
theorem cells5 {w : World} {g : Nat} {v0 v1 v2 v3 v4 : Value} (h : w.heap[g]? = some (.cells #[v0, v1, v2, v3, v4] 52 (0, 0))) : w.cell? ⟨g, 0, none⟩ = some v0 ∧ w.cell? ⟨g, 1, none⟩ = some v1 ∧ w.cell? ⟨g, 2, none⟩ = some v2 ∧ w.cell? ⟨g, 3, none⟩ = some v3 ∧ w.cell? ⟨g, 4, none⟩ = some v4 := by
  refine ⟨?_, ?_, ?_, ?_, ?_⟩
  · rw [cell_of_row _ _ 0 _ _ _ h]; rfl
  · rw [cell_of_row _ _ 1 _ _ _ h]; rfl
  · rw [cell_of_row _ _ 2 _ _ _ h]; rfl
  · rw [cell_of_row _ _ 3 _ _ _ h]; rfl
  · rw [cell_of_row _ _ 4 _ _ _ h]; rfl
set_option maxRecDepth 100000 in
set_option maxHeartbeats 1000000 in
theorem cparse_mid (s : ByteArray) (a i : Int) (n b t : ByteArray) (p : Int) (ok : Bool)
    (hP : ∀ w, Calls Tryz.prog 54 #[.string s] w fun e w' => e = .returned (.tuple #[.agg #[.int .i64 a, .int .i64 i, .string n, .string b, .string t], .int .i64 p, .bool ok]) ∧ Below w.heap.size w w') (w : World) :
    Calls Tryz.prog 48 #[.string s] w fun e w' => e = .returned (if ok = true then .tuple #[recV a i n b t, .int .i64 0, .int .i64 0] else .tuple #[recV 0 0 ⟨#[]⟩ ⟨#[]⟩ ⟨#[]⟩, .int .i64 p, .int .i64 7]) ∧ Below w.heap.size w w' := by
  have HP : Hid _ := hP
  clear hP
  go_enter Tryz.func48, Tryz.ntmps48
  go_wp2_with fail
  refine (HP.out _).mono ?_
  rintro e w1 ⟨rfl, b1⟩
  have r1 : w1.heap[w.heap.size]? = some (.cells zrec 52 (0, 0)) := by rw [b1.block _ (by simp)]; exact heap_of_new _ _ _ rfl
  have B1 : Below w.heap.size w w1 := ((Below.refl _ w).alloc (Nat.le_refl _) _).trans (b1.mono (by simp))
  have y1 := b1.size
  simp at y1
  have l1 : w.heap.size < w1.heap.size := by omega
  clear b1 HP
  obtain ⟨z0, z1, z2, z3, z4⟩ := zero_cells r1
  have f0 := fun j => frozen_of_row _ _ j _ _ r1
  have R1 : Hid _ := r1
  have HB1 : Hid _ := B1
  clear r1 B1
  cases ok
  · go_wp2
    refine bodyPost_ret (res41 Tryz.results48 _ _ w.heap.size _ _ _ _ _ _ _ rfl rfl rfl (heap_of_old _ _ _ _ (by simp; omega) (heap_five _ _ _ _ _ R1.out))) rfl ⟨rfl, ?_⟩
    exact (((((HB1.out.setCell (Nat.le_refl _) _).setCell (Nat.le_refl _) _).setCell (Nat.le_refl _) _).setCell (Nat.le_refl _) _).setCell (Nat.le_refl _) _).alloc (by simp; omega) _
  · go_wp2
    refine bodyPost_ret (res41 Tryz.results48 _ _ w.heap.size _ _ _ _ _ _ _ rfl rfl rfl (heap_of_old _ _ _ _ (by simp; omega) (heap_five _ _ _ _ _ R1.out))) rfl ⟨rfl, ?_⟩
    exact (((((HB1.out.setCell (Nat.le_refl _) _).setCell (Nat.le_refl _) _).setCell (Nat.le_refl _) _).setCell (Nat.le_refl _) _).setCell (Nat.le_refl _) _).alloc (by simp; omega) _
theorem parse_bad (s : ByteArray) (p : Nat) (hs : s.size ≤ maxLen) (h : badAt s = some p) (w : World) :
    Calls Tryz.prog 48 #[.string s] w fun e w' => e = .returned (.tuple #[recV 0 0 ⟨#[]⟩ ⟨#[]⟩ ⟨#[]⟩, .int .i64 p, .int .i64 7]) ∧ Below w.heap.size w w' :=
  cparse_mid s 0 0 ⟨#[]⟩ ⟨#[]⟩ ⟨#[]⟩ p false (fun w => rparse_bad s p hs h w) w
theorem parse_ok (s : ByteArray) (hs : s.size ≤ maxLen) (h : badAt s = none) (w : World) :
    Calls Tryz.prog 48 #[.string s] w fun e w' => e = .returned (.tuple #[recV (sf s 3).toNat (valF (sf s) 4 2) (s.extract 6 18) (s.extract 20 (20 + (sf s 19).toNat)) (s.extract (20 + (sf s 19).toNat) (36 + (sf s 19).toNat)), .int .i64 0, .int .i64 0]) ∧ Below w.heap.size w w' :=
  cparse_mid s _ _ _ _ _ 0 true (fun w => rparse_ok s hs h w) w
theorem parse_enc (A I : Nat) (n b t : ByteArray) (R : IsRec A I n b t) (w : World) :
    Calls Tryz.prog 48 #[.string (encT A I n b t)] w fun e w' => e = .returned (.tuple #[recV A I n b t, .int .i64 0, .int .i64 0]) ∧ Below w.heap.size w w' := by
  have h := parse_ok (encT A I n b t) (by rw [encT_size]; have := R.b; unfold maxLen; omega) (bad_enc R) w
  rw [read_alg R, read_id R, read_len R, read_nonce R, read_body, read_tag R] at h
  exact h
end Go.Proofs.YtgalgjmhdbncbaaGreat
