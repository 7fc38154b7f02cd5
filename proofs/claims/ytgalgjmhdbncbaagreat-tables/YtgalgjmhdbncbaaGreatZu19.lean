import Derived.Test.YtgalgjmhdbncbaaGreatZu00
import Derived.Test.YtgalgjmhdbncbaaGreatZu18
namespace Go.Proofs.YtgalgjmhdbncbaaGreat
open Go.RowKit
attribute [local go_sem ↓] Go.wp_at_zero Go.wp_at_succ

def cellT (c : Cl) : ByteArray := (str 15 fun j => if j = 14 then UInt8.ofNat c.st else rF c 6 j) ++ c.key
theorem cellT_size (c : Cl) : (cellT c).size = 15 + c.key.size := by unfold cellT; rw [ByteArray.size_append, str_size]
theorem ctext_any (c : Cl) (h : ClOk c) (w : World) : Calls Tryz.prog 74 #[.agg (clA c)] w fun e w' => e = .returned (.string (cellT c)) ∧ Below w.heap.size w w' :=
  text_run c h.sm (by have := h.st; omega) w
def upd (H : Nat → Hd) (i : Nat) (c : Cl) (j : Nat) : Hd := if j = i then ⟨c, (H i).ctr⟩ else H j
structure PS (W : World) (g sx gb : Nat) (c : Cl) : Prop where
  sp : W.cell? ⟨g, 0, none⟩ = some (ptr sx)
  cr : W.heap[gb]? = some (.cells #[.int .i64 c.st, .int .i64 c.alg, .int .i64 c.id, .string c.fix, .int .i64 c.seals, .int .i64 c.ahead, .int .i64 c.most, .int .i64 c.res, .string c.key] 87 (0, 0))
theorem PS.drew {W : World} {g sx gb : Nat} {c : Cl} (h : PS W g sx gb c) : PS W.drew g sx gb c := ⟨h.sp, h.cr⟩
theorem PS.keep {W W' : World} {g sx gb B : Nat} {c : Cl} (h : PS W g sx gb c) (hb : Below B W W') (h1 : g < B) (h2 : gb < B) : PS W' g sx gb c := ⟨by rw [hb.cell (p := ⟨g, 0, none⟩) h1]; exact h.sp, by rw [hb.block _ h2]; exact h.cr⟩
theorem tab_set9 {w : World} {g sx : Nat} {H : Nat → Hd} (h : TabP w g sx H) (i : Nat) (c : Cl) :
    TabP (((((((((w.setCell ⟨g, 1 + i * 10, none⟩ (.int .i64 c.st)).setCell ⟨g, 1 + i * 10 + 1, none⟩ (.int .i64 c.alg)).setCell ⟨g, 1 + i * 10 + 2, none⟩ (.int .i64 c.id)).setCell ⟨g, 1 + i * 10 + 3, none⟩ (.string c.fix)).setCell ⟨g, 1 + i * 10 + 4, none⟩ (.int .i64 c.seals)).setCell ⟨g, 1 + i * 10 + 5, none⟩ (.int .i64 c.ahead)).setCell ⟨g, 1 + i * 10 + 6, none⟩ (.int .i64 c.most)).setCell ⟨g, 1 + i * 10 + 7, none⟩ (.int .i64 c.res)).setCell ⟨g, 1 + i * 10 + 8, none⟩ (.string c.key)) g sx (upd H i c) := by
  refine Row.congr (Row.set (Row.set (Row.set (Row.set (Row.set (Row.set (Row.set (Row.set (Row.set h _ _) _ _) _ _) _ _) _ _) _ _) _ _) _ _) _ _) (fun j hj => ?_)
  unfold tabF upd
  by_cases h0 : j = 0
  · subst h0
    simp
    omega
  · obtain ⟨q, r, hr, rfl⟩ : ∃ q r, r < 10 ∧ j = 1 + q * 10 + r := ⟨(j - 1) / 10, (j - 1) % 10, by omega, by omega⟩
    rw [if_neg h0, show (1 + q * 10 + r - 1) / 10 = q by omega, show (1 + q * 10 + r - 1) % 10 = r by omega]
    by_cases hq : q = i
    · subst hq
      rw [if_pos rfl]
      rcases (by omega : r = 0 ∨ r = 1 ∨ r = 2 ∨ r = 3 ∨ r = 4 ∨ r = 5 ∨ r = 6 ∨ r = 7 ∨ r = 8 ∨ r = 9) with rfl | rfl | rfl | rfl | rfl | rfl | rfl | rfl | rfl | rfl <;> simp [hdF, clF]
    · rw [if_neg hq, if_neg (by omega), if_neg (by omega), if_neg (by omega), if_neg (by omega), if_neg (by omega), if_neg (by omega), if_neg (by omega), if_neg (by omega), if_neg (by omega), if_neg h0]
theorem row_set9 {w : World} {g x n : Nat} {t : TypeId} {V : Nat → Value} (h : Row w x n t V) (hx : x ≠ g) (i : Nat) (c : Cl) : Row (((((((((w.setCell ⟨g, 1 + i * 10, none⟩ (.int .i64 c.st)).setCell ⟨g, 1 + i * 10 + 1, none⟩ (.int .i64 c.alg)).setCell ⟨g, 1 + i * 10 + 2, none⟩ (.int .i64 c.id)).setCell ⟨g, 1 + i * 10 + 3, none⟩ (.string c.fix)).setCell ⟨g, 1 + i * 10 + 4, none⟩ (.int .i64 c.seals)).setCell ⟨g, 1 + i * 10 + 5, none⟩ (.int .i64 c.ahead)).setCell ⟨g, 1 + i * 10 + 6, none⟩ (.int .i64 c.most)).setCell ⟨g, 1 + i * 10 + 7, none⟩ (.int .i64 c.res)).setCell ⟨g, 1 + i * 10 + 8, none⟩ (.string c.key)) x n t V :=
  Row.other (Row.other (Row.other (Row.other (Row.other (Row.other (Row.other (Row.other (Row.other h hx) hx) hx) hx) hx) hx) hx) hx) hx
theorem fr_set9 {w0 w : World} {g : Nat} {L : List Nat} (h : Fr L w0 w) (hg : g ∈ L) (i : Nat) (c : Cl) : Fr L w0 (((((((((w.setCell ⟨g, 1 + i * 10, none⟩ (.int .i64 c.st)).setCell ⟨g, 1 + i * 10 + 1, none⟩ (.int .i64 c.alg)).setCell ⟨g, 1 + i * 10 + 2, none⟩ (.int .i64 c.id)).setCell ⟨g, 1 + i * 10 + 3, none⟩ (.string c.fix)).setCell ⟨g, 1 + i * 10 + 4, none⟩ (.int .i64 c.seals)).setCell ⟨g, 1 + i * 10 + 5, none⟩ (.int .i64 c.ahead)).setCell ⟨g, 1 + i * 10 + 6, none⟩ (.int .i64 c.most)).setCell ⟨g, 1 + i * 10 + 7, none⟩ (.int .i64 c.res)).setCell ⟨g, 1 + i * 10 + 8, none⟩ (.string c.key)) :=
  Fr.setCell (Fr.setCell (Fr.setCell (Fr.setCell (Fr.setCell (Fr.setCell (Fr.setCell (Fr.setCell (Fr.setCell h (.inr hg) _) (.inr hg) _) (.inr hg) _) (.inr hg) _) (.inr hg) _) (.inr hg) _) (.inr hg) _) (.inr hg) _) (.inr hg) _
theorem StoP.putTab {w : World} {g : Nat} {S : Sto} (h : StoP w g S) : StoP (w.setCell ⟨g, 10, none⟩ (.pointer none)) g { S with tab := none } := StoP.setTab h none
def putS (S : Sto) (i : Nat) (c : Cl) : Sto := if S.left = 1 then { wroteM S i (cellT c) with tab := none } else wroteM S i (cellT c)
def putH (S : Sto) (H : Nat → Hd) (i : Nat) (c : Cl) : Nat → Hd := if S.left = 1 then H else upd H i c
set_option maxRecDepth 100000 in
set_option maxHeartbeats 4000000 in
theorem put_down (g sx : Nat) (H : Nat → Hd) (S : Sto) (i : Nat) (c : Cl) (hi : i < 8) (hc : ClOk c) (hl : S.left ≤ 9223372036854775807) (h1 : S.left = 1) (w : World) (h : TabP w g sx H) (hs : StoP w sx S) :
    Calls Tryz.prog 41 #[ptr g, .int .i64 i, .agg (clA c)] w fun e w' => e = .returned (.int .i64 8) ∧ StoP w' sx { wroteM S i (cellT c) with tab := none } ∧ TabP w' g sx H ∧ Fr [g, sx] w w' := by
  have hne : g ≠ sx := Row.ne h hs (by decide)
  have hz := cellT_size c
  have hk := hc.sm.key
  have hkey := hc.key
  have hw := fun w h' => write_any sx S i (cellT c) hl w h'
  have hin : inCell (i : Int) = true := by simp [inCell]; omega
  have hwm : writeM S i (cellT c) = if S.left = 1 then 8 else 0 := by
    have : (cellT c).size ≤ 64 := by
      rw [hz, hkey]
      have := hc.alg
      split <;> omega
    unfold writeM
    rw [if_neg (by rw [hin]; decide), if_neg (by omega)]
  rw [hwm, if_pos h1] at hw
  have ht := fun w => ctext_any c hc w
  have hlt := Row.lt h
  have hls := Row.lt hs
  unfold ptr at hw ⊢
  unfold clA clC at ht
  have HT : Hid _ := ht
  have HW : Hid _ := hw
  have T1 : TabP (w.alloc (.cells (clA c) 87)) g sx H := Row.alloc h _
  have S1 : StoP (w.alloc (.cells (clA c) 87)) sx S := Row.alloc hs _
  have X0 : PS (w.alloc (.cells (clA c) 87)) g sx w.heap.size c := ⟨T1.sto, heap_of_new _ _ _ rfl⟩
  have F1 : Fr [g, sx] w (w.alloc (.cells (clA c) 87)) := (Fr.refl _ _).alloc _
  clear ht hw hz hk hkey hwm hin hc
  unfold clA clC
  go_enter Tryz.func41, Tryz.ntmps41
  go_wp2_with fail
  suffices HH : ∀ w1, PS w1 g sx w.heap.size c → TabP w1 g sx H → StoP w1 sx S → Fr [g, sx] w w1 → w.heap.size < w1.heap.size → Code.wp Tryz.prog _ _ _ w1 from HH _ X0 T1 S1 F1 (by simp)
  clear X0 T1 S1 F1
  intro w1 X0 T1 S1 F1 y1
  have HTb : Hid _ := T1
  have HP : Hid _ := S1
  have HF : Hid _ := F1
  clear T1 S1 F1
  refine wp_region_held_drew (S := fun W' => PS W' g sx w.heap.size c) (by kernel_rfl) X0.drew (fun hHeld => ?_)
  refine tp 0 _ ?r1
  refine nz ?_
  refine tp 1 _ ?r2
  refine nz ?_
  refine tp 2 _ ?r3
  refine nz ?_
  refine tk 3 ?v4 ?y4 ?r4
  case y4 => (intro W' hW; have hp := hW.sp; unfold ptr at hp; go_simp; try with_reducible rfl)
  refine nz ?_
  refine tp 4 _ ?r5
  refine nz ?_
  refine tk 5 ?v6 ?y6 ?r6
  case y6 => (intro W' hW; obtain ⟨c0, c1, c2, c3, c4, c5, c6, c7, c8⟩ := cells9 hW.cr; go_simp; try with_reducible rfl)
  refine nz ?_
  refine wpAnyH_ready (rs := [6]) (by kernel_rfl) (by simp) ?_
  refine AllReadyH.cons rfl (fun K hK => ?_) ?nil6
  case nil6 => exact AllReadyH.nil
  go_simp
  refine (HT.out _).mono ?_
  rintro e wa ⟨rfl, ba⟩
  have Xa := PS.keep X0.drew ba (by show _ < w1.heap.size; omega) (by show _ < w1.heap.size; omega)
  have Sa : StoP wa sx S := Row.keep (Row.drew HP.out) ba (by show _ < w1.heap.size; omega)
  have Ta : TabP wa g sx H := Row.keep (Row.drew HTb.out) ba (by show _ < w1.heap.size; omega)
  have Fa : Fr [g, sx] w wa := (HF.out.drew).trans (Fr.of_below _ ba (Nat.le_refl _))
  go_wp2_with fail
  refine hK.out _ _ Xa (fun hHeld => ?_)
  clear hK K
  refine wpAnyH_ready (rs := [7]) (by kernel_rfl) (by simp) ?_
  refine AllReadyH.cons rfl (fun K hK => ?_) ?nil7
  case nil7 => exact AllReadyH.nil
  go_simp
  refine (HW.out _ Sa).mono ?_
  rintro e wb ⟨rfl, Sb, cb⟩
  have Xb : PS wb g sx w.heap.size c := ⟨by rw [World.cell?_of_block (w := wa) (cb.block g hne)]; exact Xa.sp, by rw [cb.block _ (by omega)]; exact Xa.cr⟩
  have Tb : TabP wb g sx H := Row.chg Ta cb hne
  have Fb := Fa.trans (Fr.of_chg cb (by simp))
  go_wp2_with fail
  refine hK.out _ _ Xb (fun hHeld => ?_)
  clear hK K
  refine tp 8 _ ?r7
  refine nz ?_
  refine wpAnyH_done (by kernel_rfl) ?_ _
  clear X0 HTb HP HF HT HW Xa Sa Ta Fa
  have b0 := Xb.sp
  unfold ptr at b0
  have s10 := StoP.tabAt Sb
  have f10 := Row.frozen Sb 10
  have Sc := StoP.putTab Sb
  have Fc := Fr.setCell Fb (a := ⟨sx, 10, none⟩) (.inr (by simp)) (.pointer none)
  have Tc := Row.other Tb (g' := sx) (k := 10) (v := .pointer none) hne
  go_wp2
  go_ret
  exact ⟨rfl, Sc, Tc, Fc⟩
set_option maxRecDepth 100000 in
set_option maxHeartbeats 4000000 in
theorem put_okay (g sx : Nat) (H : Nat → Hd) (S : Sto) (i : Nat) (c : Cl) (hi : i < 8) (hc : ClOk c) (hl : S.left ≤ 9223372036854775807) (h1 : S.left ≠ 1) (w : World) (h : TabP w g sx H) (hs : StoP w sx S) :
    Calls Tryz.prog 41 #[ptr g, .int .i64 i, .agg (clA c)] w fun e w' => e = .returned (.int .i64 0) ∧ StoP w' sx (wroteM S i (cellT c)) ∧ TabP w' g sx (upd H i c) ∧ Fr [g, sx] w w' := by
  have hne : g ≠ sx := Row.ne h hs (by decide)
  have hz := cellT_size c
  have hk := hc.sm.key
  have hkey := hc.key
  have hw := fun w h' => write_any sx S i (cellT c) hl w h'
  have hin : inCell (i : Int) = true := by simp [inCell]; omega
  have hwm : writeM S i (cellT c) = if S.left = 1 then 8 else 0 := by
    have : (cellT c).size ≤ 64 := by
      rw [hz, hkey]
      have := hc.alg
      split <;> omega
    unfold writeM
    rw [if_neg (by rw [hin]; decide), if_neg (by omega)]
  rw [hwm, if_neg h1] at hw
  have ht := fun w => ctext_any c hc w
  have hlt := Row.lt h
  have hls := Row.lt hs
  unfold ptr at hw ⊢
  unfold clA clC at ht
  have HT : Hid _ := ht
  have HW : Hid _ := hw
  have T1 : TabP (w.alloc (.cells (clA c) 87)) g sx H := Row.alloc h _
  have S1 : StoP (w.alloc (.cells (clA c) 87)) sx S := Row.alloc hs _
  have X0 : PS (w.alloc (.cells (clA c) 87)) g sx w.heap.size c := ⟨T1.sto, heap_of_new _ _ _ rfl⟩
  have F1 : Fr [g, sx] w (w.alloc (.cells (clA c) 87)) := (Fr.refl _ _).alloc _
  clear ht hw hz hk hkey hwm hin hc
  unfold clA clC
  go_enter Tryz.func41, Tryz.ntmps41
  go_wp2_with fail
  suffices HH : ∀ w1, PS w1 g sx w.heap.size c → TabP w1 g sx H → StoP w1 sx S → Fr [g, sx] w w1 → w.heap.size < w1.heap.size → Code.wp Tryz.prog _ _ _ w1 from HH _ X0 T1 S1 F1 (by simp)
  clear X0 T1 S1 F1
  intro w1 X0 T1 S1 F1 y1
  have HTb : Hid _ := T1
  have HP : Hid _ := S1
  have HF : Hid _ := F1
  clear T1 S1 F1
  refine wp_region_held_drew (S := fun W' => PS W' g sx w.heap.size c) (by kernel_rfl) X0.drew (fun hHeld => ?_)
  refine tp 0 _ ?r1
  refine nz ?_
  refine tp 1 _ ?r2
  refine nz ?_
  refine tp 2 _ ?r3
  refine nz ?_
  refine tk 3 ?v4 ?y4 ?r4
  case y4 => (intro W' hW; have hp := hW.sp; unfold ptr at hp; go_simp; try with_reducible rfl)
  refine nz ?_
  refine tp 4 _ ?r5
  refine nz ?_
  refine tk 5 ?v6 ?y6 ?r6
  case y6 => (intro W' hW; obtain ⟨c0, c1, c2, c3, c4, c5, c6, c7, c8⟩ := cells9 hW.cr; go_simp; try with_reducible rfl)
  refine nz ?_
  refine wpAnyH_ready (rs := [6]) (by kernel_rfl) (by simp) ?_
  refine AllReadyH.cons rfl (fun K hK => ?_) ?nil6
  case nil6 => exact AllReadyH.nil
  go_simp
  refine (HT.out _).mono ?_
  rintro e wa ⟨rfl, ba⟩
  have Xa := PS.keep X0.drew ba (by show _ < w1.heap.size; omega) (by show _ < w1.heap.size; omega)
  have Sa : StoP wa sx S := Row.keep (Row.drew HP.out) ba (by show _ < w1.heap.size; omega)
  have Ta : TabP wa g sx H := Row.keep (Row.drew HTb.out) ba (by show _ < w1.heap.size; omega)
  have Fa : Fr [g, sx] w wa := (HF.out.drew).trans (Fr.of_below _ ba (Nat.le_refl _))
  go_wp2_with fail
  refine hK.out _ _ Xa (fun hHeld => ?_)
  clear hK K
  refine wpAnyH_ready (rs := [7]) (by kernel_rfl) (by simp) ?_
  refine AllReadyH.cons rfl (fun K hK => ?_) ?nil7
  case nil7 => exact AllReadyH.nil
  go_simp
  refine (HW.out _ Sa).mono ?_
  rintro e wb ⟨rfl, Sb, cb⟩
  have Xb : PS wb g sx w.heap.size c := ⟨by rw [World.cell?_of_block (w := wa) (cb.block g hne)]; exact Xa.sp, by rw [cb.block _ (by omega)]; exact Xa.cr⟩
  have Tb : TabP wb g sx H := Row.chg Ta cb hne
  have Fb := Fa.trans (Fr.of_chg cb (by simp))
  go_wp2_with fail
  refine hK.out _ _ Xb (fun hHeld => ?_)
  clear hK K
  refine tp 8 _ ?r7
  refine nz ?_
  refine wpAnyH_done (by kernel_rfl) ?_ _
  clear X0 HTb HP HF HT HW Xa Sa Ta Fa
  have b0 := Xb.sp
  unfold ptr at b0
  obtain ⟨c0, c1, c2, c3, c4, c5, c6, c7, c8⟩ := cells9 Xb.cr
  have hA := Tb.hd i hi
  obtain ⟨d0, d1, d2, d3, d4, d5, d6, d7, d8, d9⟩ := hA
  have ff := fun j => Row.frozen Tb j
  go_wp2_with fail
  go_region
  go_wp2
  go_ret
  exact ⟨rfl, Row.drew (row_set9 Sb (fun e => hne e.symm) i c), Row.drew (tab_set9 Tb i c), Fr.drew (fr_set9 Fb (by simp) i c)⟩
end Go.Proofs.YtgalgjmhdbncbaaGreat
namespace Go.Proofs.YtgalgjmhdbncbaaGreat
open Go.RowKit
attribute [local go_sem ↓] Go.wp_at_zero Go.wp_at_succ

def putP (S : Sto) (H : Nat → Hd) (i : Nat) (c : Cl) (e : Int) (S' : Sto) (H' : Nat → Hd) : Prop :=
  (S.left = 1 ∧ e = 8 ∧ S' = { wroteM S i (cellT c) with tab := none } ∧ H' = H) ∨ (S.left ≠ 1 ∧ e = 0 ∧ S' = wroteM S i (cellT c) ∧ H' = upd H i c)
theorem putt_any (g sx : Nat) (H : Nat → Hd) (S : Sto) (i : Nat) (c : Cl) (hi : i < 8) (hc : ClOk c) (hl : S.left ≤ 9223372036854775807) (w : World) (h : TabP w g sx H) (hs : StoP w sx S) :
    Calls Tryz.prog 41 #[ptr g, .int .i64 i, .agg (clA c)] w fun e w' => ∃ (r : Int) (S' : Sto) (H' : Nat → Hd), e = .returned (.int .i64 r) ∧ putP S H i c r S' H' ∧ StoP w' sx S' ∧ TabP w' g sx H' ∧ Fr [g, sx] w w' := by
  by_cases h1 : S.left = 1
  · refine Calls.mono (put_down g sx H S i c hi hc hl h1 w h hs) ?_
    rintro e w' ⟨rfl, a, b, d⟩
    exact ⟨8, _, _, rfl, .inl ⟨h1, rfl, rfl, rfl⟩, a, b, d⟩
  · refine Calls.mono (put_okay g sx H S i c hi hc hl h1 w h hs) ?_
    rintro e w' ⟨rfl, a, b, d⟩
    exact ⟨0, _, _, rfl, .inr ⟨h1, rfl, rfl, rfl⟩, a, b, d⟩
def TOk (H : Nat → Hd) : Prop := ∀ i, i < 8 → (H i).c.st ≠ 0 → ClOk (H i).c
theorem ClOk.retire {c : Cl} (h : ClOk c) : ClOk c.retiring := ⟨.inr rfl, h.alg, h.id, h.fix, h.cfg, h.res, rfl⟩
theorem ClOk.reserve {c : Cl} (h : ClOk c) : ClOk c.reserving := ⟨h.st, h.alg, h.id, h.fix, h.cfg, Nat.min_le_right _ _, h.key⟩
def retireP (g : Nat) (S : Sto) (H : Nat → Hd) (id e : Int) (S' : Sto) (H' : Nat → Hd) : Prop :=
  (S.tab ≠ some g ∧ e = 10 ∧ S' = S ∧ H' = H) ∨
  (S.tab = some g ∧ ∃ (i : Nat) (c : Int), liveP H id i c ∧ ((c ≠ 0 ∧ e = c ∧ S' = S ∧ H' = H) ∨ (c = 0 ∧ putP S H i (H i).c.retiring e S' H')))
set_option maxRecDepth 100000 in
set_option maxHeartbeats 4000000 in
theorem retire_any (g sx : Nat) (H : Nat → Hd) (S : Sto) (id : Int) (hH : TOk H) (hl : S.left ≤ 9223372036854775807) (w : World) (h : TabP w g sx H) (hs : StoP w sx S) (ht : TabIn w S) :
    Calls Tryz.prog 46 #[ptr g, .int .i64 id] w fun e w' => ∃ (r : Int) (S' : Sto) (H' : Nat → Hd), e = .returned (.int .i64 r) ∧ retireP g S H id r S' H' ∧ StoP w' sx S' ∧ TabP w' g sx H' ∧ Fr [g, sx] w w' := by
  have ho := fun w h hs ht => over_any g sx H S w h hs ht
  have hv := fun w h => live_any g sx H id w h
  have hp := fun i c hi hc w h hs => putt_any g sx H S i c hi hc hl w h hs
  have hr := fun c w => retiring_any c w
  unfold ptr at ho hv hp ⊢
  have HO : Hid _ := ho
  have HV : Hid _ := hv
  have HP : Hid _ := hp
  have HR : Hid _ := hr
  have HT : Hid _ := ht
  have HTO : Hid _ := hH
  clear ho hv hp hr ht hH
  by_cases hov : S.tab = some g
  · rw [decide_eq_false (by simpa using hov)] at HO
    go_enter Tryz.func46, Tryz.ntmps46
    go_wp2_with fail
    refine (HO.out _ h hs HT.out).mono ?_
    rintro e w1 ⟨rfl, hw⟩
    rw [hw]
    go_wp2_with fail
    refine (HV.out _ h).mono ?_
    rintro e w2 ⟨⟨i, c, hL, rfl⟩, b2⟩
    have F2 : Fr [g, sx] w w2 := Fr.of_below _ b2 (Nat.le_refl _)
    have T2 : TabP w2 g sx H := Row.keep h b2 (Row.lt h)
    have S2 : StoP w2 sx S := Row.keep hs b2 (Row.lt hs)
    by_cases hc0 : c = 0
    · subst hc0
      have HL : Hid (liveP H id i 0) := hL
      have hi8 : i < 8 ∧ hit H id i := by
        rcases hL with ⟨a, b, _⟩ | ⟨_, _, h⟩ | ⟨_, _, h⟩
        · exact ⟨a, b⟩
        · simp at h
        · simp at h
      have hck := (HTO.out i hi8.1 hi8.2.1).retire
      have hi := hi8.1
      obtain ⟨d0, d1, d2, d3, d4, d5, d6, d7, d8, d9⟩ := T2.hd i hi
      have hr2 := HR.out (H i).c
      unfold clA clC at hr2
      have HR2 : Hid _ := hr2
      have HCK : Hid _ := hck
      clear hr2 hL hi8 hck HR
      go_wp2_with fail
      refine (HR2.out _).mono ?_
      rintro e w3 ⟨rfl, b3⟩
      have F3 := F2.trans (Fr.of_below _ b3 (Nat.le_refl _))
      have T3 : TabP w3 g sx H := Row.keep T2 b3 (Row.lt T2)
      have S3 : StoP w3 sx S := Row.keep S2 b3 (Row.lt S2)
      have hp2 := HP.out i (H i).c.retiring hi HCK.out w3 T3 S3
      unfold clA clC at hp2
      have HP2 : Hid _ := hp2
      clear hp2 HP HR2 d0 d1 d2 d3 d4 d5 d6 d7 d8 d9
      go_wp2_with fail
      refine Calls.mono HP2.out ?_
      rintro e w4 ⟨r, S', H', rfl, hP, S4, T4, F4⟩
      have HQ : Hid _ := And.intro hP (And.intro S4 (And.intro T4 (F3.trans F4)))
      clear hP S4 T4 F4 HP2
      go_wp2
      go_ret
      exact ⟨r, S', H', rfl, .inr ⟨hov, i, 0, HL.out, .inr ⟨rfl, HQ.out.1⟩⟩, HQ.out.2.1, HQ.out.2.2.1, HQ.out.2.2.2⟩
    · have ec : (c == 0) = false := by rw [beq_eq_false_iff_ne]; exact hc0
      have HL : Hid (liveP H id i c) := hL
      clear hL
      go_wp2
      go_ret
      exact ⟨c, S, H, rfl, .inr ⟨hov, i, c, HL.out, .inl ⟨hc0, rfl, rfl, rfl⟩⟩, S2, T2, F2⟩
  · rw [decide_eq_true (by simpa using hov)] at HO
    go_enter Tryz.func46, Tryz.ntmps46
    go_wp2_with fail
    refine (HO.out _ h hs HT.out).mono ?_
    rintro e w1 ⟨rfl, hw⟩
    rw [hw]
    go_wp2
    go_ret
    exact ⟨10, S, H, rfl, .inl ⟨hov, rfl, rfl, rfl⟩, hs, h, Fr.refl _ _⟩

def createP (g : Nat) (S : Sto) (H : Nat → Hd) (id : Int) (key fix : ByteArray) (s a m e : Int) (S' : Sto) (H' : Nat → Hd) : Prop :=
  (S.tab ≠ some g ∧ e = 10 ∧ S' = S ∧ H' = H) ∨
  (S.tab = some g ∧ ((¬ (0 ≤ id ∧ id ≤ 65535 ∧ fix.size = 4 ∧ CfgOk s a m) ∧ e = 1 ∧ S' = S ∧ H' = H) ∨
    ((0 ≤ id ∧ id ≤ 65535 ∧ fix.size = 4 ∧ CfgOk s a m) ∧ ((¬ KeyLen key.size ∧ e = 2 ∧ S' = S ∧ H' = H) ∨
      ∃ A : Nat, 1 ≤ A ∧ A ≤ 3 ∧ key.size = 8 + 8 * A ∧ (((∃ i, i < 8 ∧ hit H id i) ∧ e = 12 ∧ S' = S ∧ H' = H) ∨
        ((∀ j, j < 8 → ¬ hit H id j) ∧ (((∀ j, j < 8 → (H j).c.st ≠ 0) ∧ e = 13 ∧ S' = S ∧ H' = H) ∨
          ∃ i, i < 8 ∧ (H i).c.st = 0 ∧ (∀ j, j < i → (H j).c.st ≠ 0) ∧ putP S H i ⟨1, A, id.toNat, fix, s.toNat, a.toNat, m.toNat, 0, key⟩ e S' H')))))))
attribute [local go_sem ↓] al87 stw87
attribute [local go_sem] run_al87 run_stT87 stN_cl blk_new blk_at blk_old blk_drew blk_setCell blk_setRow alloc_setRow
set_option maxRecDepth 100000 in
set_option maxHeartbeats 4000000 in
theorem create_over (g sx : Nat) (H : Nat → Hd) (S : Sto) (id : Int) (key fix : ByteArray) (s a m : Int) (hov : S.tab ≠ some g) (w : World) (h : TabP w g sx H) (hs : StoP w sx S) (ht : TabIn w S) :
    Calls Tryz.prog 44 #[ptr g, .int .i64 id, .string key, .string fix, .agg #[.int .i64 s, .int .i64 a, .int .i64 m]] w fun e w' => e = .returned (.int .i64 10) ∧ Fr [] w w' := by
  have ho := fun w h hs ht => over_any g sx H S w h hs ht
  rw [decide_eq_true hov] at ho
  unfold ptr at ho ⊢
  have HO : Hid _ := ho
  have T1 : TabP (w.alloc (.cells #[.int .i64 s, .int .i64 a, .int .i64 m] 50)) g sx H := Row.alloc h _
  have S1 : StoP (w.alloc (.cells #[.int .i64 s, .int .i64 a, .int .i64 m] 50)) sx S := Row.alloc hs _
  have I1 : TabIn (w.alloc (.cells #[.int .i64 s, .int .i64 a, .int .i64 m] 50)) S := fun t e => let ⟨V, hV⟩ := ht t e; ⟨V, hV.alloc _⟩
  have HI : Hid _ := I1
  clear ho ht I1
  go_enter Tryz.func44, Tryz.ntmps44
  go_wp2_with fail
  refine (HO.out _ T1 S1 HI.out).mono ?_
  rintro e w1 ⟨rfl, hw⟩
  rw [hw]
  go_wp2
  go_ret
  exact ⟨rfl, (Fr.refl _ _).alloc _⟩
set_option maxRecDepth 100000 in
set_option maxHeartbeats 4000000 in
theorem create_arg (g sx : Nat) (H : Nat → Hd) (S : Sto) (id : Int) (key fix : ByteArray) (s a m : Int) (hov : S.tab = some g) (hbad : ¬ (0 ≤ id ∧ id ≤ 65535 ∧ fix.size = 4 ∧ CfgOk s a m)) (hf : fix.size ≤ maxLen) (w : World) (h : TabP w g sx H) (hs : StoP w sx S) (ht : TabIn w S) :
    Calls Tryz.prog 44 #[ptr g, .int .i64 id, .string key, .string fix, .agg #[.int .i64 s, .int .i64 a, .int .i64 m]] w fun e w' => e = .returned (.int .i64 1) ∧ Fr [] w w' := by
  have ho := fun w h hs ht => over_any g sx H S w h hs ht
  rw [decide_eq_false (by simpa using hov)] at ho
  have hn := fun w => cnew_arg id key fix s a m hbad hf w
  unfold ptr at ho ⊢
  unfold clA clC at hn
  have HO : Hid _ := ho
  have HN : Hid _ := hn
  have T1 : TabP (w.alloc (.cells #[.int .i64 s, .int .i64 a, .int .i64 m] 50)) g sx H := Row.alloc h _
  have S1 : StoP (w.alloc (.cells #[.int .i64 s, .int .i64 a, .int .i64 m] 50)) sx S := Row.alloc hs _
  have I1 : TabIn (w.alloc (.cells #[.int .i64 s, .int .i64 a, .int .i64 m] 50)) S := fun t e => let ⟨V, hV⟩ := ht t e; ⟨V, hV.alloc _⟩
  have HI : Hid _ := I1
  have F1 : Fr [] w (w.alloc (.cells #[.int .i64 s, .int .i64 a, .int .i64 m] 50)) := (Fr.refl _ _).alloc _
  clear ho ht I1 hn hbad hf
  go_enter Tryz.func44, Tryz.ntmps44
  go_wp2_with fail
  refine (HO.out _ T1 S1 HI.out).mono ?_
  rintro e w1 ⟨rfl, hw⟩
  rw [hw]
  go_wp2_with fail
  refine (HN.out _).mono ?_
  rintro e w2 ⟨rfl, b2⟩
  have F2 := F1.trans (Fr.of_below [] b2 (Nat.le_refl _))
  unfold zCl
  go_wp2
  go_ret
  exact ⟨rfl, F2.alloc _⟩
set_option maxRecDepth 100000 in
set_option maxHeartbeats 8000000 in
theorem create_go (g sx : Nat) (H : Nat → Hd) (S : Sto) (I : Nat) (key fix : ByteArray) (s a m : Nat) (hov : S.tab = some g) (hI : I ≤ 65535) (hf : fix.size = 4) (hcf : CfgOk s a m) (hk : key.size ≤ maxLen) (hl : S.left ≤ 9223372036854775807) (w : World) (h : TabP w g sx H) (hs : StoP w sx S) (ht : TabIn w S) :
    Calls Tryz.prog 44 #[ptr g, .int .i64 I, .string key, .string fix, .agg #[.int .i64 s, .int .i64 a, .int .i64 m]] w fun e w' => ∃ (r : Int) (S' : Sto) (H' : Nat → Hd), e = .returned (.int .i64 r) ∧ createP g S H I key fix s a m r S' H' ∧ StoP w' sx S' ∧ TabP w' g sx H' ∧ Fr [g, sx] w w' := by
  have hgood : 0 ≤ (I : Int) ∧ (I : Int) ≤ 65535 ∧ fix.size = 4 ∧ CfgOk s a m := ⟨by omega, by omega, hf, hcf⟩
  have ho := fun w h hs ht => over_any g sx H S w h hs ht
  rw [decide_eq_false (by simpa using hov)] at ho
  have hn := fun w => cnew_ok I key fix s a m hI hf hcf hk w
  have hh := fun w h => has_any g sx H I w h
  have hfr := fun w h => free_any g sx H w h
  have hp := fun i c hi hc w h hs => putt_any g sx H S i c hi hc hl w h hs
  have hcl : ∀ A : Nat, 1 ≤ A → A ≤ 3 → key.size = 8 + 8 * A → ClOk ⟨1, A, I, fix, s, a, m, 0, key⟩ := fun A h1 h2 h3 => ⟨.inl rfl, ⟨h1, h2⟩, hI, hf, hcf, Nat.zero_le _, by simp [h3]⟩
  unfold ptr at ho hh hfr hp ⊢
  have HO : Hid _ := ho
  have HN : Hid _ := hn
  have HH : Hid _ := hh
  have HR : Hid _ := hfr
  have HP : Hid _ := hp
  have HC : Hid _ := hcl
  have HG : Hid _ := hgood
  have T1 : TabP (w.alloc (.cells #[.int .i64 s, .int .i64 a, .int .i64 m] 50)) g sx H := Row.alloc h _
  have S1 : StoP (w.alloc (.cells #[.int .i64 s, .int .i64 a, .int .i64 m] 50)) sx S := Row.alloc hs _
  have I1 : TabIn (w.alloc (.cells #[.int .i64 s, .int .i64 a, .int .i64 m] 50)) S := fun t e => let ⟨V, hV⟩ := ht t e; ⟨V, hV.alloc _⟩
  have HI : Hid _ := I1
  have F1 : Fr [g, sx] w (w.alloc (.cells #[.int .i64 s, .int .i64 a, .int .i64 m] 50)) := (Fr.refl _ _).alloc _
  clear ho ht I1 hn hh hfr hp hcl hgood hcf hk
  go_enter Tryz.func44, Tryz.ntmps44
  go_wp2_with fail
  refine (HO.out _ T1 S1 HI.out).mono ?_
  rintro e w1 ⟨rfl, hw⟩
  rw [hw]
  go_wp2_with fail
  refine (HN.out _).mono ?_
  rintro e w2 ⟨⟨hkn, rfl⟩ | ⟨A, a1, a2, a3, rfl⟩, b2⟩
  · have F2 := F1.trans (Fr.of_below [g, sx] b2 (Nat.le_refl _))
    have T2 : TabP w2 g sx H := Row.keep T1 b2 (Row.lt T1)
    have S2 : StoP w2 sx S := Row.keep S1 b2 (Row.lt S1)
    have HK : Hid _ := hkn
    clear hkn
    unfold clA clC zCl
    go_wp2
    go_ret
    exact ⟨2, S, H, rfl, .inr ⟨hov, .inr ⟨HG.out, .inl ⟨HK.out, rfl, rfl, rfl⟩⟩⟩, Row.alloc S2 _, Row.alloc T2 _, F2.alloc _⟩
  · have F2 := F1.trans (Fr.of_below [g, sx] b2 (Nat.le_refl _))
    have T2 : TabP w2 g sx H := Row.keep T1 b2 (Row.lt T1)
    have S2 : StoP w2 sx S := Row.keep S1 b2 (Row.lt S1)
    have hc := HC.out A a1 a2 a3
    have T3 : TabP (w2.alloc (.cells (clA ⟨1, A, I, fix, s, a, m, 0, key⟩) 87)) g sx H := Row.alloc T2 _
    have S3 : StoP (w2.alloc (.cells (clA ⟨1, A, I, fix, s, a, m, 0, key⟩) 87)) sx S := Row.alloc S2 _
    have F3 := F2.alloc (.cells (clA ⟨1, A, I, fix, s, a, m, 0, key⟩) 87)
    have r3 : (w2.alloc (.cells (clA ⟨1, A, I, fix, s, a, m, 0, key⟩) 87)).heap[w2.heap.size]? = some (.cells (clA ⟨1, A, I, fix, s, a, m, 0, key⟩) 87 (0, 0)) := heap_of_new _ _ _ rfl
    have HCK : Hid _ := hc
    have HA3 : Hid _ := a3
    clear hc b2 a3 T1 S1 F1
    unfold clA clC at T3 S3 F3 r3 ⊢
    go_wp2_with fail
    refine (HH.out _ T3).mono ?_
    rintro e w4 ⟨⟨hex, rfl⟩ | ⟨hno, rfl⟩, b4⟩
    · have F4 := F3.trans (Fr.of_below [g, sx] b4 (Nat.le_refl _))
      have HX : Hid _ := hex
      have T4 : TabP w4 g sx H := Row.keep T3 b4 (Row.lt T3)
      have S4 : StoP w4 sx S := Row.keep S3 b4 (Row.lt S3)
      clear hex
      go_wp2
      go_ret
      exact ⟨12, S, H, rfl, .inr ⟨hov, .inr ⟨HG.out, .inr ⟨A, a1, a2, HA3.out, .inl ⟨HX.out, rfl, rfl, rfl⟩⟩⟩⟩, S4, T4, F4⟩
    · have F4 := F3.trans (Fr.of_below [g, sx] b4 (Nat.le_refl _))
      have HX : Hid _ := hno
      have T4 : TabP w4 g sx H := Row.keep T3 b4 (Row.lt T3)
      have S4 : StoP w4 sx S := Row.keep S3 b4 (Row.lt S3)
      have r4 : w4.heap[w2.heap.size]? = some (.cells #[.int .i64 ((1 : Nat) : Int), .int .i64 A, .int .i64 I, .string fix, .int .i64 s, .int .i64 a, .int .i64 m, .int .i64 ((0 : Nat) : Int), .string key] 87 (0, 0)) := by rw [b4.block _ (by simp)]; exact r3
      clear hno b4 r3
      go_wp2_with fail
      refine (HR.out _ T4).mono ?_
      rintro e w5 ⟨⟨i, hi, h0, hm, rfl⟩ | ⟨hfull, rfl⟩, b5⟩
      · have F5 := F4.trans (Fr.of_below [g, sx] b5 (Nat.le_refl _))
        have T5 : TabP w5 g sx H := Row.keep T4 b5 (Row.lt T4)
        have S5 : StoP w5 sx S := Row.keep S4 b5 (Row.lt S4)
        have HM : Hid _ := And.intro h0 hm
        have r5 : w5.heap[w2.heap.size]? = some (.cells #[.int .i64 ((1 : Nat) : Int), .int .i64 A, .int .i64 I, .string fix, .int .i64 s, .int .i64 a, .int .i64 m, .int .i64 ((0 : Nat) : Int), .string key] 87 (0, 0)) := by
          rw [b5.block _ ?_]; exact r4
          rcases Nat.lt_or_ge w2.heap.size w4.heap.size with hlt | hge
          · exact hlt
          · rw [Array.getElem?_eq_none hge] at r4; cases r4
        obtain ⟨c0, c1, c2, c3, c4, c5, c6, c7, c8⟩ := cells9 r5
        have hp2 := HP.out i _ hi HCK.out w5 T5 S5
        unfold clA clC at hp2
        have HP2 : Hid _ := hp2
        clear hp2 h0 hm b5 r4 r5 HP
        go_wp2_with fail
        refine Calls.mono HP2.out ?_
        rintro e w6 ⟨r, S', H', rfl, hP, S6, T6, F6⟩
        have HQ : Hid _ := And.intro hP (And.intro S6 (And.intro T6 (F5.trans F6)))
        clear hP S6 T6 F6 HP2
        go_wp2
        go_ret
        exact ⟨r, S', H', rfl, .inr ⟨hov, .inr ⟨HG.out, .inr ⟨A, a1, a2, HA3.out, .inr ⟨HX.out, .inr ⟨i, hi, HM.out.1, HM.out.2, HQ.out.1⟩⟩⟩⟩⟩, HQ.out.2.1, HQ.out.2.2.1, HQ.out.2.2.2⟩
      · have F5 := F4.trans (Fr.of_below [g, sx] b5 (Nat.le_refl _))
        have T5 : TabP w5 g sx H := Row.keep T4 b5 (Row.lt T4)
        have S5 : StoP w5 sx S := Row.keep S4 b5 (Row.lt S4)
        have HM : Hid _ := hfull
        clear hfull b5
        go_wp2
        go_ret
        exact ⟨13, S, H, rfl, .inr ⟨hov, .inr ⟨HG.out, .inr ⟨A, a1, a2, HA3.out, .inr ⟨HX.out, .inl ⟨HM.out, rfl, rfl, rfl⟩⟩⟩⟩⟩, S5, T5, F5⟩
end Go.Proofs.YtgalgjmhdbncbaaGreat
