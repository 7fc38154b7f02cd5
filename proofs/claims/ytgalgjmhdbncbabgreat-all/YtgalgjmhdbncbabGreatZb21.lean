import Derived.Test.YtgalgjmhdbncbabGreatZb00
import Derived.Test.YtgalgjmhdbncbabGreatZb17
import Derived.Test.YtgalgjmhdbncbabGreatZb19
import Derived.Test.YtgalgjmhdbncbabGreatZb20
import Derived.Deep.RegionHeld
namespace Go.Proofs.YtgalgjmhdbncbabGreat
open Go.RowKit
attribute [local go_sem ↓] Go.wp_at_zero Go.wp_at_succ

def ofOk (s : ByteArray) : Prop := s.size = 0 ∨ (15 ≤ s.size ∧ sf s 0 = 107 ∧ HoldsC (rdC s 6))
def ofC (s : ByteArray) : Cl := if s.size = 0 then zCl else rdC s 6
theorem of_any (s : ByteArray) (hz : s.size ≤ maxLen) (w : World) : Calls Tryz.prog 51 #[.string s] w fun e w' => (∃ (c : Cl) (b : Bool), e = .returned (.tuple #[.agg (clA c), .bool b]) ∧ (b = true ↔ ofOk s) ∧ (b = true → c = ofC s)) ∧ Below w.heap.size w w' := by
  by_cases h0 : s.size = 0
  · have e := (empty_iff s).1 h0
    subst e
    refine Calls.mono (of_empty w) ?_
    rintro e w' ⟨rfl, b⟩
    exact ⟨⟨zCl, true, rfl, ⟨fun _ => .inl rfl, fun _ => rfl⟩, fun _ => rfl⟩, b⟩
  · by_cases h15 : s.size < 15
    · refine Calls.mono (of_short s h0 h15 w) ?_
      rintro e w' ⟨rfl, b⟩
      refine ⟨⟨zCl, false, rfl, ⟨fun h => by simp at h, fun h => ?_⟩, fun h => by simp at h⟩, b⟩
      rcases h with h | ⟨h, _⟩
      · exact absurd h h0
      · omega
    · by_cases hk : sf s 0 = 107
      · classical
        refine Calls.mono (of_read s (by omega) hz hk (decide (HoldsC (rdC s 6))) (by simp) w) ?_
        rintro e w' ⟨rfl, b⟩
        refine ⟨⟨rdC s 6, _, rfl, ⟨fun h => .inr ⟨by omega, hk, by simpa using h⟩, fun h => ?_⟩, fun _ => ?_⟩, b⟩
        · rcases h with h | ⟨_, _, h⟩
          · exact absurd h h0
          · simpa using h
        · unfold ofC; rw [if_neg h0]
      · refine Calls.mono (of_mark s (by omega) hz hk w) ?_
        rintro e w' ⟨rfl, b⟩
        refine ⟨⟨zCl, false, rfl, ⟨fun h => by simp at h, fun h => ?_⟩, fun h => by simp at h⟩, b⟩
        rcases h with h | ⟨_, h, _⟩
        · exact absurd h h0
        · exact absurd h hk
def zHd : Hd := ⟨zCl, 0⟩
def stH (S : Sto) (k j : Nat) : Hd := if j < k then ⟨ofC (S.cell j), (ofC (S.cell j)).res⟩ else zHd
def CellOk (S : Sto) (j : Nat) : Prop := ofOk (S.cell j) ∧ ((ofC (S.cell j)).st ≠ 0 → ∀ i, i < j → ¬ ((ofC (S.cell i)).st ≠ 0 ∧ (ofC (S.cell i)).id = (ofC (S.cell j)).id))
theorem bd92 (ps : Array (Nat × Value)) : Instr.build 105 ps = Bd 105 ps := rfl
theorem run_bd92 (sx : Nat) (w : World) : Sem.run Tryz.prog (Bd 105 #[(0, .pointer (some ⟨sx, 0, none⟩))]) w = .ok (.agg (arr 81 (tabF sx fun _ => zHd))) w := by kernel_rfl
theorem ldw82 (v : Value) : Instr.loadAt 92 v = LdT 92 v := rfl
theorem run_ldT82 (g off : Nat) (w : World) : Sem.run Tryz.prog (LdT 92 (.pointer (some ⟨g, off, none⟩))) w = ldN (blk w g) off 8 w (ldO Tryz.prog 92 g off w) := run_ldT 92 8 _ Tryz.underlying92 rfl (by kernel_rfl) g off w
def celF (S : Sto) (j : Nat) : Value := .string (S.cell j)
theorem ldN_sto (S : Sto) (w : World) (r : Result Value) : ldN (some (.cells (arr 11 (stoV S)) 94 (0, 0))) 0 8 w r = .ok (.agg (arr 8 (celF S))) w := by
  rw [ldN_mid 11 (stoV S) 94 0 8 w r (by omega)]
  have e : (arr 8 fun j => stoV S (0 + j)) = arr 8 (celF S) := by
    apply arr_congr
    intro j hj
    rw [Nat.zero_add]
    unfold stoV celF
    rw [if_pos hj]
  rw [e]
theorem ix82 (S : Sto) (w : World) : ∀ k : Nat, k < 8 → (Instr.index 92 (.agg (arr 8 (celF S))) (.int .i64 (k : Int))).run Tryz.prog w = .ok (.string (S.cell k)) w
  | 0, _ => by kernel_rfl
  | 1, _ => by kernel_rfl
  | 2, _ => by kernel_rfl
  | 3, _ => by kernel_rfl
  | 4, _ => by kernel_rfl
  | 5, _ => by kernel_rfl
  | 6, _ => by kernel_rfl
  | 7, _ => by kernel_rfl
  | n + 8, h => absurd h (by omega)
def setH (H : Nat → Hd) (k : Nat) (c : Cl) (j : Nat) : Hd := if j = k then ⟨c, c.res⟩ else H j
theorem tab_set10 {w : World} {g sx : Nat} {H : Nat → Hd} (h : TabP w g sx H) (k : Nat) (c : Cl) : TabP ((((((((((w.setCell ⟨g, 1 + k * 10, none⟩ (.int .i64 c.st)).setCell ⟨g, 1 + k * 10 + 1, none⟩ (.int .i64 c.alg)).setCell ⟨g, 1 + k * 10 + 2, none⟩ (.int .i64 c.id)).setCell ⟨g, 1 + k * 10 + 3, none⟩ (.string c.fix)).setCell ⟨g, 1 + k * 10 + 4, none⟩ (.int .i64 c.seals)).setCell ⟨g, 1 + k * 10 + 5, none⟩ (.int .i64 c.ahead)).setCell ⟨g, 1 + k * 10 + 6, none⟩ (.int .i64 c.most)).setCell ⟨g, 1 + k * 10 + 7, none⟩ (.int .i64 c.res)).setCell ⟨g, 1 + k * 10 + 8, none⟩ (.string c.key)).setCell ⟨g, 1 + k * 10 + 9, none⟩ (.int .i64 c.res)) g sx (setH H k c) := by
  refine Row.congr (Row.set (tab_set9 h k c) (1 + k * 10 + 9) _) (fun j hj => ?_)
  by_cases h0 : j = 0
  · subst h0
    rw [if_neg (by omega)]
    rfl
  · obtain ⟨q, r, hr, rfl⟩ : ∃ q r, r < 10 ∧ j = 1 + q * 10 + r := ⟨(j - 1) / 10, (j - 1) % 10, by omega, by omega⟩
    have e1 : ∀ H' : Nat → Hd, tabF sx H' (1 + q * 10 + r) = hdF (H' q) r := fun H' => by
      unfold tabF
      rw [if_neg h0, show (1 + q * 10 + r - 1) / 10 = q by omega, show (1 + q * 10 + r - 1) % 10 = r by omega]
    rw [e1, e1]
    unfold upd setH
    by_cases hq : q = k
    · subst hq
      rw [if_pos rfl, if_pos rfl]
      by_cases h9 : r = 9
      · subst h9; rw [if_pos rfl]; rfl
      · rw [if_neg (by omega)]; simp [hdF, h9]
    · rw [if_neg hq, if_neg hq, if_neg (by omega)]
theorem row_set10 {w : World} {g x n : Nat} {t : TypeId} {V : Nat → Value} (h : Row w x n t V) (hx : x ≠ g) (k : Nat) (c : Cl) : Row ((((((((((w.setCell ⟨g, 1 + k * 10, none⟩ (.int .i64 c.st)).setCell ⟨g, 1 + k * 10 + 1, none⟩ (.int .i64 c.alg)).setCell ⟨g, 1 + k * 10 + 2, none⟩ (.int .i64 c.id)).setCell ⟨g, 1 + k * 10 + 3, none⟩ (.string c.fix)).setCell ⟨g, 1 + k * 10 + 4, none⟩ (.int .i64 c.seals)).setCell ⟨g, 1 + k * 10 + 5, none⟩ (.int .i64 c.ahead)).setCell ⟨g, 1 + k * 10 + 6, none⟩ (.int .i64 c.most)).setCell ⟨g, 1 + k * 10 + 7, none⟩ (.int .i64 c.res)).setCell ⟨g, 1 + k * 10 + 8, none⟩ (.string c.key)).setCell ⟨g, 1 + k * 10 + 9, none⟩ (.int .i64 c.res)) x n t V := Row.other (row_set9 h hx k c) hx
theorem fr_set10 {w0 w : World} {g : Nat} {L : List Nat} (h : Fr L w0 w) (hg : w0.heap.size ≤ g) (k : Nat) (c : Cl) : Fr L w0 ((((((((((w.setCell ⟨g, 1 + k * 10, none⟩ (.int .i64 c.st)).setCell ⟨g, 1 + k * 10 + 1, none⟩ (.int .i64 c.alg)).setCell ⟨g, 1 + k * 10 + 2, none⟩ (.int .i64 c.id)).setCell ⟨g, 1 + k * 10 + 3, none⟩ (.string c.fix)).setCell ⟨g, 1 + k * 10 + 4, none⟩ (.int .i64 c.seals)).setCell ⟨g, 1 + k * 10 + 5, none⟩ (.int .i64 c.ahead)).setCell ⟨g, 1 + k * 10 + 6, none⟩ (.int .i64 c.most)).setCell ⟨g, 1 + k * 10 + 7, none⟩ (.int .i64 c.res)).setCell ⟨g, 1 + k * 10 + 8, none⟩ (.string c.key)).setCell ⟨g, 1 + k * 10 + 9, none⟩ (.int .i64 c.res)) :=
  Fr.setCell (Fr.setCell (Fr.setCell (Fr.setCell (Fr.setCell (Fr.setCell (Fr.setCell (Fr.setCell (Fr.setCell (Fr.setCell h (.inl hg) _) (.inl hg) _) (.inl hg) _) (.inl hg) _) (.inl hg) _) (.inl hg) _) (.inl hg) _) (.inl hg) _) (.inl hg) _) (.inl hg) _
attribute [local go_sem ↓] bd92 ldw82 al87 stw87
attribute [local go_sem] run_bd92 run_ldT82 ldN_sto run_al87 run_stT87 stN_cl blk_new blk_at blk_old blk_drew blk_setCell blk_setRow alloc_setRow
set_option maxRecDepth 100000 in
set_option maxHeartbeats 1000000 in
theorem start_nil (w : World) : Calls Tryz.prog 26 #[.pointer none] w fun e w' => e = .returned (.tuple #[.pointer none, .int .i64 1]) ∧ w' = w := by
  go_enter Tryz.func26, Tryz.ntmps26
  go_wp2
  go_ret2
  exact ⟨rfl, rfl⟩
structure LS (w W : World) (sx g : Nat) (S : Sto) (k : Nat) : Prop where
  s : StoP W sx { S with tab := none }
  t : TabP W g sx (stH S k)
  f : Fr [sx] w W
  ok : ∀ j, j < k → CellOk S j
theorem LS.below {w W W' : World} {sx g : Nat} {S : Sto} {k : Nat} (h : LS w W sx g S k) (hb : Below W.heap.size W W') : LS w W' sx g S k := ⟨Row.keep h.s hb (Row.lt h.s), Row.keep h.t hb (Row.lt h.t), h.f.trans (Fr.of_below [sx] hb (Nat.le_refl _)), h.ok⟩
theorem LS.alloc {w W : World} {sx g : Nat} {S : Sto} {k : Nat} (h : LS w W sx g S k) (o : Obj) : LS w (W.alloc o) sx g S k := ⟨Row.alloc h.s o, Row.alloc h.t o, h.f.alloc o, h.ok⟩
theorem LS.drew {w W : World} {sx g : Nat} {S : Sto} {k : Nat} (h : LS w W sx g S k) : LS w W.drew sx g S k := ⟨h.s, h.t, h.f.drew, h.ok⟩
theorem row_lit_set10 {w : World} {g x : Nat} {cs : Array Value} {t : TypeId} (h : w.heap[x]? = some (.cells cs t (0, 0))) (hx : x ≠ g) (k : Nat) (c : Cl) : ((((((((((w.setCell ⟨g, 1 + k * 10, none⟩ (.int .i64 c.st)).setCell ⟨g, 1 + k * 10 + 1, none⟩ (.int .i64 c.alg)).setCell ⟨g, 1 + k * 10 + 2, none⟩ (.int .i64 c.id)).setCell ⟨g, 1 + k * 10 + 3, none⟩ (.string c.fix)).setCell ⟨g, 1 + k * 10 + 4, none⟩ (.int .i64 c.seals)).setCell ⟨g, 1 + k * 10 + 5, none⟩ (.int .i64 c.ahead)).setCell ⟨g, 1 + k * 10 + 6, none⟩ (.int .i64 c.most)).setCell ⟨g, 1 + k * 10 + 7, none⟩ (.int .i64 c.res)).setCell ⟨g, 1 + k * 10 + 8, none⟩ (.string c.key)).setCell ⟨g, 1 + k * 10 + 9, none⟩ (.int .i64 c.res)).heap[x]? = some (.cells cs t (0, 0)) := by
  rw [heap_skip _ _ _ _ _ hx, heap_skip _ _ _ _ _ hx, heap_skip _ _ _ _ _ hx, heap_skip _ _ _ _ _ hx, heap_skip _ _ _ _ _ hx, heap_skip _ _ _ _ _ hx, heap_skip _ _ _ _ _ hx, heap_skip _ _ _ _ _ hx, heap_skip _ _ _ _ _ hx, heap_skip _ _ _ _ _ hx]
  exact h
set_option maxRecDepth 100000 in
set_option maxHeartbeats 8000000 in
theorem start_any (sx : Nat) (S : Sto) (hz : ∀ j, j < 8 → (S.cell j).size ≤ maxLen) (w : World) (hs : StoP w sx S) :
    Calls Tryz.prog 26 #[ptr sx] w fun e w' => (((∀ j, j < 8 → CellOk S j) ∧ ∃ g, w.heap.size ≤ g ∧ e = .returned (.tuple #[.pointer (some ⟨g, 0, none⟩), .int .i64 0]) ∧ StoP w' sx { S with tab := some g } ∧ TabP w' g sx (stH S 8)) ∨
      ((¬ ∀ j, j < 8 → CellOk S j) ∧ e = .returned (.tuple #[.pointer none, .int .i64 9]) ∧ StoP w' sx { S with tab := none })) ∧ Fr [sx] w w' := by
  have hlt := Row.lt hs
  have HZ : Hid _ := hz
  clear hz
  have S1 := StoP.putTab hs
  have f10 := Row.frozen hs 10
  have c10 := hs.tabAt
  have F1 : Fr [sx] w (w.setCell ⟨sx, 10, none⟩ (.pointer none)) := Fr.setCell (Fr.refl _ _) (.inr (by simp)) _
  have S2 : StoP ((w.setCell ⟨sx, 10, none⟩ (.pointer none)).alloc (.cells (arr 81 (tabF sx fun _ => zHd)) 105)) sx { S with tab := none } := Row.alloc S1 _
  have T2 : TabP ((w.setCell ⟨sx, 10, none⟩ (.pointer none)).alloc (.cells (arr 81 (tabF sx fun _ => zHd)) 105)) w.heap.size sx (stH S 0) := Row.new _ 81 105 _ _ (by simp)
  have L0 : LS w ((w.setCell ⟨sx, 10, none⟩ (.pointer none)).alloc (.cells (arr 81 (tabF sx fun _ => zHd)) 105)) sx w.heap.size S 0 := ⟨S2, T2, F1.alloc _, fun j hj => by omega⟩
  have q1 := heap_pos S1
  have HL : Hid _ := L0
  clear S1 S2 T2 L0 F1
  unfold ptr
  go_enter Tryz.func26, Tryz.ntmps26
  go_wp2
  obtain ⟨g, hg⟩ : ∃ g, w.heap.size = g := ⟨_, rfl⟩
  have hL0 := HL.out
  rw [hg] at hL0 ⊢
  clear HL q1 c10 f10 hs
  go_loopw [5, 6, 7, 8, 21] (fun _ _ _ _ i wr => ∃ k : Nat, k ≤ 8 ∧ i = .int .i64 k ∧ LS w wr sx g S k) (fun _ _ _ _ i _ => 8 - (intOf i).toNat)
  case atStart => exact ⟨0, by omega, rfl, hL0⟩
  case round =>
    clear hL0
    obtain ⟨k, hk, rfl, hL⟩ := hrel
    by_cases hk8 : k < 8
    · have ix : ∀ W, (Instr.index 92 (.agg (arr 8 (celF { S with tab := none }))) (.int .i64 (k : Int))).run Tryz.prog W = .ok (.string (S.cell k)) W := fun W => ix82 { S with tab := none } W k hk8
      have hof := fun W => of_any (S.cell k) (HZ.out k hk8) W
      have HOF : Hid _ := hof
      clear hof
      go_wp2_with fail
      refine (HOF.out _).mono ?_
      rintro e w1 ⟨⟨c, b, rfl, hb, hcc⟩, b1⟩
      have L1 := LS.below hL b1
      clear b1 hL
      have L2 := LS.alloc L1 (.cells (clA c) 100)
      have r2 : (w1.alloc (.cells (clA c) 100)).heap[w1.heap.size]? = some (.cells (clA c) 100 (0, 0)) := heap_of_new _ _ _ rfl
      unfold clA at L2 r2
      unfold clA clC
      cases b with
      | false =>
        have hbad : ¬ ∀ j, j < 8 → CellOk S j := fun h => by have := hb.2 (h k hk8).1; simp at this
        have HX : Hid _ := And.intro hbad (And.intro L2.s L2.f)
        clear hb hcc hbad L1 L2 r2
        go_wp2
        go_ret2
        exact ⟨.inr ⟨HX.out.1, rfl, HX.out.2.1⟩, HX.out.2.2⟩
      | true =>
        have hcE := hcc rfl
        have hok := hb.1 rfl
        have HCE : Hid _ := hcE
        have HOk : Hid _ := hok
        have HST : Hid (setH (stH S k) k c = stH S (k + 1)) := by
          show setH (stH S k) k c = stH S (k + 1)
          funext j
          unfold setH stH
          by_cases e : j = k
          · subst e; rw [if_pos rfl, if_pos (by omega), hcE]
          · rw [if_neg e]
            by_cases e2 : j < k
            · rw [if_pos e2, if_pos (by omega)]
            · rw [if_neg e2, if_neg (by omega)]
        have hho := fun W => hof_any c W
        unfold clA clC at hho
        have HHO : Hid _ := hho
        obtain ⟨q0, q1, q2, q3, q4, q5, q6, q7, q8⟩ := cells9 r2
        have y1 : w.heap.size ≤ w1.heap.size := L1.f.size
        have hgl : g < w1.heap.size := Row.lt L1.t
        clear hb hcc hcE hok hho
        by_cases h0 : c.st = 0
        · have e0 : ((c.st : Int) == 0) = true := by rw [beq_iff_eq]; omega
          have HOK : Hid (∀ j, j < k + 1 → CellOk S j) := by
            intro j hj
            by_cases e : j = k
            · subst e
              exact ⟨HOk.out, fun h => absurd (by rw [← HCE.out]; exact h0) h⟩
            · exact L1.ok j (by omega)
          have hz : ((c.st : Nat) : Int) = 0 := by omega
          rw [hz] at L2 r2 q0 q1 q2 q3 q4 q5 q6 q7 q8 ⊢
          go_wp2_with fail
          obtain ⟨gc, hgc⟩ : ∃ gc, w1.heap.size = gc := ⟨_, rfl⟩
          have hgc2 : gc < (w1.alloc (.cells (clC 0 c.alg c.id c.fix c.seals c.ahead c.most c.res c.key) 100)).heap.size := by simp; omega
          have hgcn : gc ≠ g := by omega
          rw [hgc] at r2 ⊢
          clear q0 q1 q2 q3 q4 q5 q6 q7 q8 L1
          generalize w1.alloc (.cells (clC 0 c.alg c.id c.fix c.seals c.ahead c.most c.res c.key) 100) = W2 at *
          have r3 : W2.heap[gc]? = some (.cells #[.int .i64 c.st, .int .i64 c.alg, .int .i64 c.id, .string c.fix, .int .i64 c.seals, .int .i64 c.ahead, .int .i64 c.most, .int .i64 c.res, .string c.key] 100 (0, 0)) := by rw [hz]; exact r2
          have L3 := L2
          clear r2 L2 hz h0 e0
          refine wp_region_held_drew (S := fun W' => W'.heap[gc]? = some (.cells #[.int .i64 c.st, .int .i64 c.alg, .int .i64 c.id, .string c.fix, .int .i64 c.seals, .int .i64 c.ahead, .int .i64 c.most, .int .i64 c.res, .string c.key] 100 (0, 0))) (by kernel_rfl) r3 (fun hHeld => ?_)
          refine tp 0 _ ?r1
          refine nz ?_
          refine tp 1 _ ?r2
          refine nz ?_
          refine tk 2 ?v3 ?y3 ?r3
          case y3 => (intro W' hW; obtain ⟨q0, q1, q2, q3, q4, q5, q6, q7, q8⟩ := cells9 hW; go_simp; try with_reducible rfl)
          refine nz ?_
          refine tp 4 _ ?r4
          refine nz ?_
          refine tp 5 _ ?r5
          refine nz ?_
          refine wpAnyH_ready (rs := [3]) (by kernel_rfl) (by simp) ?_
          refine AllReadyH.cons rfl (fun K hK => ?_) ?nil3
          case nil3 => exact AllReadyH.nil
          go_simp
          refine (HHO.out _).mono ?_
          rintro e wb ⟨rfl, bb⟩
          have Lb := LS.below (LS.drew L3) bb
          have rb : wb.heap[gc]? = some (.cells #[.int .i64 c.st, .int .i64 c.alg, .int .i64 c.id, .string c.fix, .int .i64 c.seals, .int .i64 c.ahead, .int .i64 c.most, .int .i64 c.res, .string c.key] 100 (0, 0)) := by rw [bb.block _ hgc2]; exact r3
          unfold hdA
          go_wp2_with fail
          refine hK.out _ _ rb (fun hHeld => ?_)
          clear hK K
          refine tp 6 _ ?r6
          refine nz ?_
          refine wpAnyH_ready (rs := [7]) (by kernel_rfl) (by simp) ?_
          refine AllReadyH.cons rfl (fun K hK => ?_) ?nil7
          case nil7 => exact AllReadyH.nil
          obtain ⟨d0, d1, d2, d3, d4, d5, d6, d7, d8, d9⟩ := Lb.t.hd k hk8
          have ff := fun j => Row.frozen Lb.t j
          go_simp
          refine hK.out _ _ (by have := row_lit_set10 rb hgcn k c; exact this) (fun hHeld => ?_)
          clear hK K
          refine wpAnyH_done (by kernel_rfl) ?_ _
          have T9 := tab_set10 Lb.t k c
          rw [HST.out] at T9
          have L9 : LS w (((((((((((wb.setCell ⟨g, 1 + k * 10, none⟩ (.int .i64 c.st)).setCell ⟨g, 1 + k * 10 + 1, none⟩ (.int .i64 c.alg)).setCell ⟨g, 1 + k * 10 + 2, none⟩ (.int .i64 c.id)).setCell ⟨g, 1 + k * 10 + 3, none⟩ (.string c.fix)).setCell ⟨g, 1 + k * 10 + 4, none⟩ (.int .i64 c.seals)).setCell ⟨g, 1 + k * 10 + 5, none⟩ (.int .i64 c.ahead)).setCell ⟨g, 1 + k * 10 + 6, none⟩ (.int .i64 c.most)).setCell ⟨g, 1 + k * 10 + 7, none⟩ (.int .i64 c.res)).setCell ⟨g, 1 + k * 10 + 8, none⟩ (.string c.key)).setCell ⟨g, 1 + k * 10 + 9, none⟩ (.int .i64 c.res))) sx g S (k + 1) := ⟨row_set10 Lb.s (fun e => Row.ne Lb.t Lb.s (by decide) e.symm) k c, T9, fr_set10 Lb.f (by omega) k c, HOK.out⟩
          clear T9 d0 d1 d2 d3 d4 d5 d6 d7 d8 d9 ff rb hHeld r3 L3 Lb
          generalize ((((((((((wb.setCell ⟨g, 1 + k * 10, none⟩ (.int .i64 c.st)).setCell ⟨g, 1 + k * 10 + 1, none⟩ (.int .i64 c.alg)).setCell ⟨g, 1 + k * 10 + 2, none⟩ (.int .i64 c.id)).setCell ⟨g, 1 + k * 10 + 3, none⟩ (.string c.fix)).setCell ⟨g, 1 + k * 10 + 4, none⟩ (.int .i64 c.seals)).setCell ⟨g, 1 + k * 10 + 5, none⟩ (.int .i64 c.ahead)).setCell ⟨g, 1 + k * 10 + 6, none⟩ (.int .i64 c.most)).setCell ⟨g, 1 + k * 10 + 7, none⟩ (.int .i64 c.res)).setCell ⟨g, 1 + k * 10 + 8, none⟩ (.string c.key)).setCell ⟨g, 1 + k * 10 + 9, none⟩ (.int .i64 c.res)) = W9 at *
          go_wp2
          exact ⟨⟨k + 1, by omega, by go_num, L9⟩, by simp [intOf]; omega⟩
        · have e0 : ((c.st : Int) == 0) = false := by rw [beq_eq_false_iff_ne]; omega
          have hha := fun W hT => has_any g sx (stH S k) c.id W hT
          unfold ptr at hha
          have HHA : Hid _ := hha
          have HOKL : Hid _ := L1.ok
          clear hha L1
          go_wp2_with fail
          refine (HHA.out _ L2.t).mono ?_
          rintro e w3 ⟨⟨hex, rfl⟩ | ⟨hno, rfl⟩, b3⟩
          · have L3 := LS.below L2 b3
            have hbad : ¬ ∀ j, j < 8 → CellOk S j := fun h => by
              obtain ⟨i, hi8, hst, hid⟩ := hex
              unfold stH at hst hid
              by_cases hik : i < k
              · rw [if_pos hik] at hst hid
                have := (h k hk8).2 (by rw [← HCE.out]; exact h0) i hik
                apply this
                refine ⟨hst, ?_⟩
                rw [← HCE.out]
                dsimp only at hid
                omega
              · rw [if_neg hik] at hst
                exact hst rfl
            have HX : Hid _ := And.intro hbad (And.intro L3.s L3.f)
            clear hex hbad L2 L3 r2 b3 q0 q1 q2 q3 q4 q5 q6 q7 q8
            go_wp2
            go_ret2
            exact ⟨.inr ⟨HX.out.1, rfl, HX.out.2.1⟩, HX.out.2.2⟩
          · have L3 := LS.below L2 b3
            have HOK : Hid (∀ j, j < k + 1 → CellOk S j) := by
              intro j hj
              by_cases e : j = k
              · subst e
                refine ⟨HOk.out, fun h i hi hh => ?_⟩
                refine hno i (by omega) ⟨?_, ?_⟩
                · unfold stH; rw [if_pos hi]; exact hh.1
                · unfold stH
                  rw [if_pos hi]
                  have := hh.2
                  rw [← HCE.out] at this
                  dsimp only
                  omega
              · exact HOKL.out j (by omega)
            have r3' : w3.heap[w1.heap.size]? = some (.cells #[.int .i64 c.st, .int .i64 c.alg, .int .i64 c.id, .string c.fix, .int .i64 c.seals, .int .i64 c.ahead, .int .i64 c.most, .int .i64 c.res, .string c.key] 100 (0, 0)) := by rw [b3.block _ (by simp)]; exact r2
            have y3 := b3.size
            simp at y3
            clear hno L2 r2 b3 q0 q1 q2 q3 q4 q5 q6 q7 q8
            go_wp2_with fail
            obtain ⟨gc, hgc⟩ : ∃ gc, w1.heap.size = gc := ⟨_, rfl⟩
            have hgc2 : gc < w3.heap.size := by omega
            have hgcn : gc ≠ g := by omega
            rw [hgc] at r3' ⊢
            have r3 := r3'
            clear r3' h0 e0 hgc
            refine wp_region_held_drew (S := fun W' => W'.heap[gc]? = some (.cells #[.int .i64 c.st, .int .i64 c.alg, .int .i64 c.id, .string c.fix, .int .i64 c.seals, .int .i64 c.ahead, .int .i64 c.most, .int .i64 c.res, .string c.key] 100 (0, 0))) (by kernel_rfl) r3 (fun hHeld => ?_)
            refine tp 0 _ ?r7
            refine nz ?_
            refine tp 1 _ ?r8
            refine nz ?_
            refine tk 2 ?v9 ?y9 ?r9
            case y9 => (intro W' hW; obtain ⟨q0, q1, q2, q3, q4, q5, q6, q7, q8⟩ := cells9 hW; go_simp; try with_reducible rfl)
            refine nz ?_
            refine tp 4 _ ?r10
            refine nz ?_
            refine tp 5 _ ?r11
            refine nz ?_
            refine wpAnyH_ready (rs := [3]) (by kernel_rfl) (by simp) ?_
            refine AllReadyH.cons rfl (fun K hK => ?_) ?nil3
            case nil3 => exact AllReadyH.nil
            go_simp
            refine (HHO.out _).mono ?_
            rintro e wb ⟨rfl, bb⟩
            have Lb := LS.below (LS.drew L3) bb
            have rb : wb.heap[gc]? = some (.cells #[.int .i64 c.st, .int .i64 c.alg, .int .i64 c.id, .string c.fix, .int .i64 c.seals, .int .i64 c.ahead, .int .i64 c.most, .int .i64 c.res, .string c.key] 100 (0, 0)) := by rw [bb.block _ hgc2]; exact r3
            unfold hdA
            go_wp2_with fail
            refine hK.out _ _ rb (fun hHeld => ?_)
            clear hK K
            refine tp 6 _ ?r12
            refine nz ?_
            refine wpAnyH_ready (rs := [7]) (by kernel_rfl) (by simp) ?_
            refine AllReadyH.cons rfl (fun K hK => ?_) ?nil7
            case nil7 => exact AllReadyH.nil
            obtain ⟨d0, d1, d2, d3, d4, d5, d6, d7, d8, d9⟩ := Lb.t.hd k hk8
            have ff := fun j => Row.frozen Lb.t j
            go_simp
            refine hK.out _ _ (by have := row_lit_set10 rb hgcn k c; exact this) (fun hHeld => ?_)
            clear hK K
            refine wpAnyH_done (by kernel_rfl) ?_ _
            have T9 := tab_set10 Lb.t k c
            rw [HST.out] at T9
            have L9 : LS w (((((((((((wb.setCell ⟨g, 1 + k * 10, none⟩ (.int .i64 c.st)).setCell ⟨g, 1 + k * 10 + 1, none⟩ (.int .i64 c.alg)).setCell ⟨g, 1 + k * 10 + 2, none⟩ (.int .i64 c.id)).setCell ⟨g, 1 + k * 10 + 3, none⟩ (.string c.fix)).setCell ⟨g, 1 + k * 10 + 4, none⟩ (.int .i64 c.seals)).setCell ⟨g, 1 + k * 10 + 5, none⟩ (.int .i64 c.ahead)).setCell ⟨g, 1 + k * 10 + 6, none⟩ (.int .i64 c.most)).setCell ⟨g, 1 + k * 10 + 7, none⟩ (.int .i64 c.res)).setCell ⟨g, 1 + k * 10 + 8, none⟩ (.string c.key)).setCell ⟨g, 1 + k * 10 + 9, none⟩ (.int .i64 c.res))) sx g S (k + 1) := ⟨row_set10 Lb.s (fun e => Row.ne Lb.t Lb.s (by decide) e.symm) k c, T9, fr_set10 Lb.f (by omega) k c, HOK.out⟩
            clear T9 d0 d1 d2 d3 d4 d5 d6 d7 d8 d9 ff rb hHeld r3 L3 Lb
            generalize ((((((((((wb.setCell ⟨g, 1 + k * 10, none⟩ (.int .i64 c.st)).setCell ⟨g, 1 + k * 10 + 1, none⟩ (.int .i64 c.alg)).setCell ⟨g, 1 + k * 10 + 2, none⟩ (.int .i64 c.id)).setCell ⟨g, 1 + k * 10 + 3, none⟩ (.string c.fix)).setCell ⟨g, 1 + k * 10 + 4, none⟩ (.int .i64 c.seals)).setCell ⟨g, 1 + k * 10 + 5, none⟩ (.int .i64 c.ahead)).setCell ⟨g, 1 + k * 10 + 6, none⟩ (.int .i64 c.most)).setCell ⟨g, 1 + k * 10 + 7, none⟩ (.int .i64 c.res)).setCell ⟨g, 1 + k * 10 + 8, none⟩ (.string c.key)).setCell ⟨g, 1 + k * 10 + 9, none⟩ (.int .i64 c.res)) = W9 at *
            go_wp2
            exact ⟨⟨k + 1, by omega, by go_num, L9⟩, by simp [intOf]; omega⟩
    · have : k = 8 := by omega
      subst this
      have s10 := StoP.tabAt hL.s
      have f10 := Row.frozen hL.s 10
      have S9 := StoP.setTab hL.s (some g)
      have F9 := Fr.setCell hL.f (a := ⟨sx, 10, none⟩) (.inr (by simp)) (ptrO (some g))
      have T9 := Row.other hL.t (g' := sx) (k := 10) (v := ptrO (some g)) (fun e => Row.ne hL.t hL.s (by decide) e)
      have OK := hL.ok
      unfold ptrO at S9 F9 T9
      have HX : Hid _ := And.intro S9 (And.intro F9 (And.intro T9 OK))
      clear S9 F9 T9 OK hL
      go_wp2
      go_ret2
      exact ⟨.inl ⟨HX.out.2.2.2, g, by omega, rfl, HX.out.1, HX.out.2.2.1⟩, HX.out.2.1⟩
end Go.Proofs.YtgalgjmhdbncbabGreat
