import Derived.Test.YtgalgjmhdbncbaaGreatZf21
namespace Go.Proofs.YtgalgjmhdbncbaaGreat
open Go.RowKit
attribute [local go_sem ↓] Go.wp_at_zero Go.wp_at_succ

def cellT (c : Cl) : ByteArray := (str 15 fun j => if j = 14 then UInt8.ofNat c.st else rF c 6 j) ++ c.key
theorem cellT_size (c : Cl) : (cellT c).size = 15 + c.key.size := by unfold cellT; rw [ByteArray.size_append, str_size]
theorem ctext_any (c : Cl) (h : ClOk c) (w : World) : Calls Tryz.prog 74 #[.agg (clA c)] w fun e w' => e = .returned (.string (cellT c)) ∧ Below w.heap.size w w' :=
  text_run c h.sm (by have := h.st; omega) w
def upd (H : Nat → Hd) (i : Nat) (c : Cl) (j : Nat) : Hd := if j = i then ⟨c, (H i).ctr⟩ else H j
structure PS (W : World) (g sx gb : Nat) (c : Cl) : Prop where
  sp : W.cell? ⟨g, 0, none⟩ = some (ptr sx)
  cr : W.heap[gb]? = some (.cells #[.int .i64 c.st, .int .i64 c.alg, .int .i64 c.id, .string c.fix, .int .i64 c.seals, .int .i64 c.ahead, .int .i64 c.most, .int .i64 c.res, .string c.key] 87 (0, 0))
theorem PS.drew {W : World} {g sx gb : Nat} {c : Cl} (h : PS W g sx gb c) : PS W.drew g sx gb c := ⟨h.sp, h.cr⟩
theorem PS.keep {W W' : World} {g sx gb B : Nat} {c : Cl} (h : PS W g sx gb c) (hb : Below B W W') (h1 : g < B) (h2 : gb < B) : PS W' g sx gb c := ⟨by rw [hb.cell (p := ⟨g, 0, none⟩) h1]; exact h.sp, by rw [hb.block _ h2]; exact h.cr⟩
theorem tab_set9 {w : World} {g sx : Nat} {H : Nat → Hd} (h : TabP w g sx H) (i : Nat) (c : Cl) :
    TabP (((((((((w.setCell ⟨g, 1 + i * 10, none⟩ (.int .i64 c.st)).setCell ⟨g, 1 + i * 10 + 1, none⟩ (.int .i64 c.alg)).setCell ⟨g, 1 + i * 10 + 2, none⟩ (.int .i64 c.id)).setCell ⟨g, 1 + i * 10 + 3, none⟩ (.string c.fix)).setCell ⟨g, 1 + i * 10 + 4, none⟩ (.int .i64 c.seals)).setCell ⟨g, 1 + i * 10 + 5, none⟩ (.int .i64 c.ahead)).setCell ⟨g, 1 + i * 10 + 6, none⟩ (.int .i64 c.most)).setCell ⟨g, 1 + i * 10 + 7, none⟩ (.int .i64 c.res)).setCell ⟨g, 1 + i * 10 + 8, none⟩ (.string c.key)) g sx (upd H i c) := by
  refine Row.congr (Row.set (Row.set (Row.set (Row.set (Row.set (Row.set (Row.set (Row.set (Row.set h _ _) _ _) _ _) _ _) _ _) _ _) _ _) _ _) _ _) (fun j hj => ?_)
  unfold tabF upd
  by_cases h0 : j = 0
  · subst h0
    simp
    omega
  · obtain ⟨q, r, hr, rfl⟩ : ∃ q r, r < 10 ∧ j = 1 + q * 10 + r := ⟨(j - 1) / 10, (j - 1) % 10, by omega, by omega⟩
    rw [if_neg h0, show (1 + q * 10 + r - 1) / 10 = q by omega, show (1 + q * 10 + r - 1) % 10 = r by omega]
    by_cases hq : q = i
    · subst hq
      rw [if_pos rfl]
      rcases (by omega : r = 0 ∨ r = 1 ∨ r = 2 ∨ r = 3 ∨ r = 4 ∨ r = 5 ∨ r = 6 ∨ r = 7 ∨ r = 8 ∨ r = 9) with rfl | rfl | rfl | rfl | rfl | rfl | rfl | rfl | rfl | rfl <;> simp [hdF, clF]
    · rw [if_neg hq, if_neg (by omega), if_neg (by omega), if_neg (by omega), if_neg (by omega), if_neg (by omega), if_neg (by omega), if_neg (by omega), if_neg (by omega), if_neg (by omega), if_neg h0]
theorem row_set9 {w : World} {g x n : Nat} {t : TypeId} {V : Nat → Value} (h : Row w x n t V) (hx : x ≠ g) (i : Nat) (c : Cl) : Row (((((((((w.setCell ⟨g, 1 + i * 10, none⟩ (.int .i64 c.st)).setCell ⟨g, 1 + i * 10 + 1, none⟩ (.int .i64 c.alg)).setCell ⟨g, 1 + i * 10 + 2, none⟩ (.int .i64 c.id)).setCell ⟨g, 1 + i * 10 + 3, none⟩ (.string c.fix)).setCell ⟨g, 1 + i * 10 + 4, none⟩ (.int .i64 c.seals)).setCell ⟨g, 1 + i * 10 + 5, none⟩ (.int .i64 c.ahead)).setCell ⟨g, 1 + i * 10 + 6, none⟩ (.int .i64 c.most)).setCell ⟨g, 1 + i * 10 + 7, none⟩ (.int .i64 c.res)).setCell ⟨g, 1 + i * 10 + 8, none⟩ (.string c.key)) x n t V :=
  Row.other (Row.other (Row.other (Row.other (Row.other (Row.other (Row.other (Row.other (Row.other h hx) hx) hx) hx) hx) hx) hx) hx) hx
theorem fr_set9 {w0 w : World} {g : Nat} {L : List Nat} (h : Fr L w0 w) (hg : g ∈ L) (i : Nat) (c : Cl) : Fr L w0 (((((((((w.setCell ⟨g, 1 + i * 10, none⟩ (.int .i64 c.st)).setCell ⟨g, 1 + i * 10 + 1, none⟩ (.int .i64 c.alg)).setCell ⟨g, 1 + i * 10 + 2, none⟩ (.int .i64 c.id)).setCell ⟨g, 1 + i * 10 + 3, none⟩ (.string c.fix)).setCell ⟨g, 1 + i * 10 + 4, none⟩ (.int .i64 c.seals)).setCell ⟨g, 1 + i * 10 + 5, none⟩ (.int .i64 c.ahead)).setCell ⟨g, 1 + i * 10 + 6, none⟩ (.int .i64 c.most)).setCell ⟨g, 1 + i * 10 + 7, none⟩ (.int .i64 c.res)).setCell ⟨g, 1 + i * 10 + 8, none⟩ (.string c.key)) :=
  Fr.setCell (Fr.setCell (Fr.setCell (Fr.setCell (Fr.setCell (Fr.setCell (Fr.setCell (Fr.setCell (Fr.setCell h (.inr hg) _) (.inr hg) _) (.inr hg) _) (.inr hg) _) (.inr hg) _) (.inr hg) _) (.inr hg) _) (.inr hg) _) (.inr hg) _
theorem StoP.putTab {w : World} {g : Nat} {S : Sto} (h : StoP w g S) : StoP (w.setCell ⟨g, 10, none⟩ (.pointer none)) g { S with tab := none } := StoP.setTab h none
def putS (S : Sto) (i : Nat) (c : Cl) : Sto := if S.left = 1 then { wroteM S i (cellT c) with tab := none } else wroteM S i (cellT c)
def putH (S : Sto) (H : Nat → Hd) (i : Nat) (c : Cl) : Nat → Hd := if S.left = 1 then H else upd H i c
set_option maxRecDepth 100000 in
set_option maxHeartbeats 4000000 in
theorem put_down (g sx : Nat) (H : Nat → Hd) (S : Sto) (i : Nat) (c : Cl) (hi : i < 8) (hc : ClOk c) (hl : S.left ≤ 9223372036854775807) (h1 : S.left = 1) (w : World) (h : TabP w g sx H) (hs : StoP w sx S) :
    Calls Tryz.prog 41 #[ptr g, .int .i64 i, .agg (clA c)] w fun e w' => e = .returned (.int .i64 8) ∧ StoP w' sx { wroteM S i (cellT c) with tab := none } ∧ TabP w' g sx H ∧ Fr [g, sx] w w' := by
  have hne : g ≠ sx := Row.ne h hs (by decide)
  have hz := cellT_size c
  have hk := hc.sm.key
  have hkey := hc.key
  have hw := fun w h' => write_any sx S i (cellT c) hl w h'
  have hin : inCell (i : Int) = true := by simp [inCell]; omega
  have hwm : writeM S i (cellT c) = if S.left = 1 then 8 else 0 := by
    have : (cellT c).size ≤ 64 := by
      rw [hz, hkey]
      have := hc.alg
      split <;> omega
    unfold writeM
    rw [if_neg (by rw [hin]; decide), if_neg (by omega)]
  rw [hwm, if_pos h1] at hw
  have ht := fun w => ctext_any c hc w
  have hlt := Row.lt h
  have hls := Row.lt hs
  unfold ptr at hw ⊢
  unfold clA clC at ht
  have HT : Hid _ := ht
  have HW : Hid _ := hw
  have T1 : TabP (w.alloc (.cells (clA c) 87)) g sx H := Row.alloc h _
  have S1 : StoP (w.alloc (.cells (clA c) 87)) sx S := Row.alloc hs _
  have X0 : PS (w.alloc (.cells (clA c) 87)) g sx w.heap.size c := ⟨T1.sto, heap_of_new _ _ _ rfl⟩
  have F1 : Fr [g, sx] w (w.alloc (.cells (clA c) 87)) := (Fr.refl _ _).alloc _
  clear ht hw hz hk hkey hwm hin hc
  unfold clA clC
  go_enter Tryz.func41, Tryz.ntmps41
  go_wp2_with fail
  suffices HH : ∀ w1, PS w1 g sx w.heap.size c → TabP w1 g sx H → StoP w1 sx S → Fr [g, sx] w w1 → w.heap.size < w1.heap.size → Code.wp Tryz.prog _ _ _ w1 from HH _ X0 T1 S1 F1 (by simp)
  clear X0 T1 S1 F1
  intro w1 X0 T1 S1 F1 y1
  have HTb : Hid _ := T1
  have HP : Hid _ := S1
  have HF : Hid _ := F1
  clear T1 S1 F1
  refine wp_region_held_drew (S := fun W' => PS W' g sx w.heap.size c) (by kernel_rfl) X0.drew (fun hHeld => ?_)
  refine wpAnyH_take (i := 0) (v := ?v1) rfl (by kernel_rfl) (by kernel_rfl) (by kernel_rfl) (fun _ _ _ h => h) (Or.inl ⟨by rfl, ?y1⟩) (by assumption) ?r1
  case y1 => (intro W' hW; go_simp; try with_reducible rfl)
  try simp only [Act.put, List.getElem_toArray, List.getElem_cons_zero, List.setIfInBounds_toArray, List.set_cons_zero, List.set_cons_succ]
  refine wpAnyH_take (i := 1) (v := ?v2) rfl (by kernel_rfl) (by kernel_rfl) (by kernel_rfl) (fun _ _ _ h => h) (Or.inl ⟨by rfl, ?y2⟩) (by assumption) ?r2
  case y2 => (intro W' hW; go_simp; try with_reducible rfl)
  try simp only [Act.put, List.getElem_toArray, List.getElem_cons_zero, List.getElem_cons_succ, List.setIfInBounds_toArray, List.set_cons_zero, List.set_cons_succ]
  refine wpAnyH_take (i := 2) (v := ?v3) rfl (by kernel_rfl) (by kernel_rfl) (by kernel_rfl) (fun _ _ _ h => h) (Or.inl ⟨by rfl, ?y3⟩) (by assumption) ?r3
  case y3 => (intro W' hW; go_simp; try with_reducible rfl)
  try simp only [Act.put, List.getElem_toArray, List.getElem_cons_zero, List.getElem_cons_succ, List.setIfInBounds_toArray, List.set_cons_zero, List.set_cons_succ]
  refine wpAnyH_take (i := 3) (v := ?v4) rfl (by kernel_rfl) (by kernel_rfl) (by kernel_rfl) (fun _ _ _ h => h) (Or.inl ⟨by rfl, ?y4⟩) (by assumption) ?r4
  case y4 => (intro W' hW; have hp := hW.sp; unfold ptr at hp; go_simp; try with_reducible rfl)
  try simp only [Act.put, List.getElem_toArray, List.getElem_cons_zero, List.getElem_cons_succ, List.setIfInBounds_toArray, List.set_cons_zero, List.set_cons_succ]
  refine wpAnyH_take (i := 4) (v := ?v5) rfl (by kernel_rfl) (by kernel_rfl) (by kernel_rfl) (fun _ _ _ h => h) (Or.inl ⟨by rfl, ?y5⟩) (by assumption) ?r5
  case y5 => (intro W' hW; go_simp; try with_reducible rfl)
  try simp only [Act.put, List.getElem_toArray, List.getElem_cons_zero, List.getElem_cons_succ, List.setIfInBounds_toArray, List.set_cons_zero, List.set_cons_succ]
  refine wpAnyH_take (i := 5) (v := ?v6) rfl (by kernel_rfl) (by kernel_rfl) (by kernel_rfl) (fun _ _ _ h => h) (Or.inl ⟨by rfl, ?y6⟩) (by assumption) ?r6
  case y6 => (intro W' hW; obtain ⟨c0, c1, c2, c3, c4, c5, c6, c7, c8⟩ := cells9 hW.cr; go_simp; try with_reducible rfl)
  try simp only [Act.put, List.getElem_toArray, List.getElem_cons_zero, List.getElem_cons_succ, List.setIfInBounds_toArray, List.set_cons_zero, List.set_cons_succ]
  refine wpAnyH_ready (rs := [6]) (by kernel_rfl) (by simp) ?_
  refine AllReadyH.cons rfl (fun K hK => ?_) ?nil6
  case nil6 => exact AllReadyH.nil
  go_simp
  refine (HT.out _).mono ?_
  rintro e wa ⟨rfl, ba⟩
  have Xa := PS.keep X0.drew ba (by show _ < w1.heap.size; omega) (by show _ < w1.heap.size; omega)
  have Sa : StoP wa sx S := Row.keep (Row.drew HP.out) ba (by show _ < w1.heap.size; omega)
  have Ta : TabP wa g sx H := Row.keep (Row.drew HTb.out) ba (by show _ < w1.heap.size; omega)
  have Fa : Fr [g, sx] w wa := (HF.out.drew).trans (Fr.of_below _ ba (Nat.le_refl _))
  go_wp2_with fail
  refine hK.out _ _ Xa (fun hHeld => ?_)
  clear hK K
  refine wpAnyH_ready (rs := [7]) (by kernel_rfl) (by simp) ?_
  refine AllReadyH.cons rfl (fun K hK => ?_) ?nil7
  case nil7 => exact AllReadyH.nil
  go_simp
  refine (HW.out _ Sa).mono ?_
  rintro e wb ⟨rfl, Sb, cb⟩
  have Xb : PS wb g sx w.heap.size c := ⟨by rw [World.cell?_of_block (w := wa) (cb.block g hne)]; exact Xa.sp, by rw [cb.block _ (by omega)]; exact Xa.cr⟩
  have Tb : TabP wb g sx H := Row.chg Ta cb hne
  have Fb := Fa.trans (Fr.of_chg cb (by simp))
  go_wp2_with fail
  refine hK.out _ _ Xb (fun hHeld => ?_)
  clear hK K
  refine wpAnyH_take (i := 8) (v := ?v7) rfl (by kernel_rfl) (by kernel_rfl) (by kernel_rfl) (fun _ _ _ h => h) (Or.inl ⟨by rfl, ?y7⟩) (by assumption) ?r7
  case y7 => (intro W' hW; go_simp; try with_reducible rfl)
  try simp only [Act.put, List.getElem_toArray, List.getElem_cons_zero, List.getElem_cons_succ, List.setIfInBounds_toArray, List.set_cons_zero, List.set_cons_succ]
  refine wpAnyH_done (by kernel_rfl) ?_ _
  clear X0 HTb HP HF HT HW Xa Sa Ta Fa
  have b0 := Xb.sp
  unfold ptr at b0
  have s10 := StoP.tabAt Sb
  have f10 := Row.frozen Sb 10
  have Sc := StoP.putTab Sb
  have Fc := Fr.setCell Fb (a := ⟨sx, 10, none⟩) (.inr (by simp)) (.pointer none)
  have Tc := Row.other Tb (g' := sx) (k := 10) (v := .pointer none) hne
  go_wp2
  go_ret
  exact ⟨rfl, Sc, Tc, Fc⟩
set_option maxRecDepth 100000 in
set_option maxHeartbeats 4000000 in
theorem put_okay (g sx : Nat) (H : Nat → Hd) (S : Sto) (i : Nat) (c : Cl) (hi : i < 8) (hc : ClOk c) (hl : S.left ≤ 9223372036854775807) (h1 : S.left ≠ 1) (w : World) (h : TabP w g sx H) (hs : StoP w sx S) :
    Calls Tryz.prog 41 #[ptr g, .int .i64 i, .agg (clA c)] w fun e w' => e = .returned (.int .i64 0) ∧ StoP w' sx (wroteM S i (cellT c)) ∧ TabP w' g sx (upd H i c) ∧ Fr [g, sx] w w' := by
  have hne : g ≠ sx := Row.ne h hs (by decide)
  have hz := cellT_size c
  have hk := hc.sm.key
  have hkey := hc.key
  have hw := fun w h' => write_any sx S i (cellT c) hl w h'
  have hin : inCell (i : Int) = true := by simp [inCell]; omega
  have hwm : writeM S i (cellT c) = if S.left = 1 then 8 else 0 := by
    have : (cellT c).size ≤ 64 := by
      rw [hz, hkey]
      have := hc.alg
      split <;> omega
    unfold writeM
    rw [if_neg (by rw [hin]; decide), if_neg (by omega)]
  rw [hwm, if_neg h1] at hw
  have ht := fun w => ctext_any c hc w
  have hlt := Row.lt h
  have hls := Row.lt hs
  unfold ptr at hw ⊢
  unfold clA clC at ht
  have HT : Hid _ := ht
  have HW : Hid _ := hw
  have T1 : TabP (w.alloc (.cells (clA c) 87)) g sx H := Row.alloc h _
  have S1 : StoP (w.alloc (.cells (clA c) 87)) sx S := Row.alloc hs _
  have X0 : PS (w.alloc (.cells (clA c) 87)) g sx w.heap.size c := ⟨T1.sto, heap_of_new _ _ _ rfl⟩
  have F1 : Fr [g, sx] w (w.alloc (.cells (clA c) 87)) := (Fr.refl _ _).alloc _
  clear ht hw hz hk hkey hwm hin hc
  unfold clA clC
  go_enter Tryz.func41, Tryz.ntmps41
  go_wp2_with fail
  suffices HH : ∀ w1, PS w1 g sx w.heap.size c → TabP w1 g sx H → StoP w1 sx S → Fr [g, sx] w w1 → w.heap.size < w1.heap.size → Code.wp Tryz.prog _ _ _ w1 from HH _ X0 T1 S1 F1 (by simp)
  clear X0 T1 S1 F1
  intro w1 X0 T1 S1 F1 y1
  have HTb : Hid _ := T1
  have HP : Hid _ := S1
  have HF : Hid _ := F1
  clear T1 S1 F1
  refine wp_region_held_drew (S := fun W' => PS W' g sx w.heap.size c) (by kernel_rfl) X0.drew (fun hHeld => ?_)
  refine wpAnyH_take (i := 0) (v := ?v1) rfl (by kernel_rfl) (by kernel_rfl) (by kernel_rfl) (fun _ _ _ h => h) (Or.inl ⟨by rfl, ?y1⟩) (by assumption) ?r1
  case y1 => (intro W' hW; go_simp; try with_reducible rfl)
  try simp only [Act.put, List.getElem_toArray, List.getElem_cons_zero, List.setIfInBounds_toArray, List.set_cons_zero, List.set_cons_succ]
  refine wpAnyH_take (i := 1) (v := ?v2) rfl (by kernel_rfl) (by kernel_rfl) (by kernel_rfl) (fun _ _ _ h => h) (Or.inl ⟨by rfl, ?y2⟩) (by assumption) ?r2
  case y2 => (intro W' hW; go_simp; try with_reducible rfl)
  try simp only [Act.put, List.getElem_toArray, List.getElem_cons_zero, List.getElem_cons_succ, List.setIfInBounds_toArray, List.set_cons_zero, List.set_cons_succ]
  refine wpAnyH_take (i := 2) (v := ?v3) rfl (by kernel_rfl) (by kernel_rfl) (by kernel_rfl) (fun _ _ _ h => h) (Or.inl ⟨by rfl, ?y3⟩) (by assumption) ?r3
  case y3 => (intro W' hW; go_simp; try with_reducible rfl)
  try simp only [Act.put, List.getElem_toArray, List.getElem_cons_zero, List.getElem_cons_succ, List.setIfInBounds_toArray, List.set_cons_zero, List.set_cons_succ]
  refine wpAnyH_take (i := 3) (v := ?v4) rfl (by kernel_rfl) (by kernel_rfl) (by kernel_rfl) (fun _ _ _ h => h) (Or.inl ⟨by rfl, ?y4⟩) (by assumption) ?r4
  case y4 => (intro W' hW; have hp := hW.sp; unfold ptr at hp; go_simp; try with_reducible rfl)
  try simp only [Act.put, List.getElem_toArray, List.getElem_cons_zero, List.getElem_cons_succ, List.setIfInBounds_toArray, List.set_cons_zero, List.set_cons_succ]
  refine wpAnyH_take (i := 4) (v := ?v5) rfl (by kernel_rfl) (by kernel_rfl) (by kernel_rfl) (fun _ _ _ h => h) (Or.inl ⟨by rfl, ?y5⟩) (by assumption) ?r5
  case y5 => (intro W' hW; go_simp; try with_reducible rfl)
  try simp only [Act.put, List.getElem_toArray, List.getElem_cons_zero, List.getElem_cons_succ, List.setIfInBounds_toArray, List.set_cons_zero, List.set_cons_succ]
  refine wpAnyH_take (i := 5) (v := ?v6) rfl (by kernel_rfl) (by kernel_rfl) (by kernel_rfl) (fun _ _ _ h => h) (Or.inl ⟨by rfl, ?y6⟩) (by assumption) ?r6
  case y6 => (intro W' hW; obtain ⟨c0, c1, c2, c3, c4, c5, c6, c7, c8⟩ := cells9 hW.cr; go_simp; try with_reducible rfl)
  try simp only [Act.put, List.getElem_toArray, List.getElem_cons_zero, List.getElem_cons_succ, List.setIfInBounds_toArray, List.set_cons_zero, List.set_cons_succ]
  refine wpAnyH_ready (rs := [6]) (by kernel_rfl) (by simp) ?_
  refine AllReadyH.cons rfl (fun K hK => ?_) ?nil6
  case nil6 => exact AllReadyH.nil
  go_simp
  refine (HT.out _).mono ?_
  rintro e wa ⟨rfl, ba⟩
  have Xa := PS.keep X0.drew ba (by show _ < w1.heap.size; omega) (by show _ < w1.heap.size; omega)
  have Sa : StoP wa sx S := Row.keep (Row.drew HP.out) ba (by show _ < w1.heap.size; omega)
  have Ta : TabP wa g sx H := Row.keep (Row.drew HTb.out) ba (by show _ < w1.heap.size; omega)
  have Fa : Fr [g, sx] w wa := (HF.out.drew).trans (Fr.of_below _ ba (Nat.le_refl _))
  go_wp2_with fail
  refine hK.out _ _ Xa (fun hHeld => ?_)
  clear hK K
  refine wpAnyH_ready (rs := [7]) (by kernel_rfl) (by simp) ?_
  refine AllReadyH.cons rfl (fun K hK => ?_) ?nil7
  case nil7 => exact AllReadyH.nil
  go_simp
  refine (HW.out _ Sa).mono ?_
  rintro e wb ⟨rfl, Sb, cb⟩
  have Xb : PS wb g sx w.heap.size c := ⟨by rw [World.cell?_of_block (w := wa) (cb.block g hne)]; exact Xa.sp, by rw [cb.block _ (by omega)]; exact Xa.cr⟩
  have Tb : TabP wb g sx H := Row.chg Ta cb hne
  have Fb := Fa.trans (Fr.of_chg cb (by simp))
  go_wp2_with fail
  refine hK.out _ _ Xb (fun hHeld => ?_)
  clear hK K
  refine wpAnyH_take (i := 8) (v := ?v7) rfl (by kernel_rfl) (by kernel_rfl) (by kernel_rfl) (fun _ _ _ h => h) (Or.inl ⟨by rfl, ?y7⟩) (by assumption) ?r7
  case y7 => (intro W' hW; go_simp; try with_reducible rfl)
  try simp only [Act.put, List.getElem_toArray, List.getElem_cons_zero, List.getElem_cons_succ, List.setIfInBounds_toArray, List.set_cons_zero, List.set_cons_succ]
  refine wpAnyH_done (by kernel_rfl) ?_ _
  clear X0 HTb HP HF HT HW Xa Sa Ta Fa
  have b0 := Xb.sp
  unfold ptr at b0
  obtain ⟨c0, c1, c2, c3, c4, c5, c6, c7, c8⟩ := cells9 Xb.cr
  have hA := Tb.hd i hi
  obtain ⟨d0, d1, d2, d3, d4, d5, d6, d7, d8, d9⟩ := hA
  have ff := fun j => Row.frozen Tb j
  go_wp2_with fail
  go_region
  go_wp2
  go_ret
  exact ⟨rfl, Row.drew (row_set9 Sb (fun e => hne e.symm) i c), Row.drew (tab_set9 Tb i c), Fr.drew (fr_set9 Fb (by simp) i c)⟩
end Go.Proofs.YtgalgjmhdbncbaaGreat
