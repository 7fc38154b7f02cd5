import Derived.Test.YtgalgjmhdbncbaaGreatZf22
import Derived.Test.YtgalgjmhdbncbaaGreatZf04
namespace Go.Proofs.YtgalgjmhdbncbaaGreat
open Go.RowKit
attribute [local go_sem ↓] Go.wp_at_zero Go.wp_at_succ

def putP (S : Sto) (H : Nat → Hd) (i : Nat) (c : Cl) (e : Int) (S' : Sto) (H' : Nat → Hd) : Prop :=
  (S.left = 1 ∧ e = 8 ∧ S' = { wroteM S i (cellT c) with tab := none } ∧ H' = H) ∨ (S.left ≠ 1 ∧ e = 0 ∧ S' = wroteM S i (cellT c) ∧ H' = upd H i c)
theorem putt_any (g sx : Nat) (H : Nat → Hd) (S : Sto) (i : Nat) (c : Cl) (hi : i < 8) (hc : ClOk c) (hl : S.left ≤ 9223372036854775807) (w : World) (h : TabP w g sx H) (hs : StoP w sx S) :
    Calls Tryz.prog 41 #[ptr g, .int .i64 i, .agg (clA c)] w fun e w' => ∃ (r : Int) (S' : Sto) (H' : Nat → Hd), e = .returned (.int .i64 r) ∧ putP S H i c r S' H' ∧ StoP w' sx S' ∧ TabP w' g sx H' ∧ Fr [g, sx] w w' := by
  by_cases h1 : S.left = 1
  · refine Calls.mono (put_down g sx H S i c hi hc hl h1 w h hs) ?_
    rintro e w' ⟨rfl, a, b, d⟩
    exact ⟨8, _, _, rfl, .inl ⟨h1, rfl, rfl, rfl⟩, a, b, d⟩
  · refine Calls.mono (put_okay g sx H S i c hi hc hl h1 w h hs) ?_
    rintro e w' ⟨rfl, a, b, d⟩
    exact ⟨0, _, _, rfl, .inr ⟨h1, rfl, rfl, rfl⟩, a, b, d⟩
def TOk (H : Nat → Hd) : Prop := ∀ i, i < 8 → (H i).c.st ≠ 0 → ClOk (H i).c
theorem ClOk.retire {c : Cl} (h : ClOk c) : ClOk c.retiring := ⟨.inr rfl, h.alg, h.id, h.fix, h.cfg, h.res, rfl⟩
theorem ClOk.reserve {c : Cl} (h : ClOk c) : ClOk c.reserving := ⟨h.st, h.alg, h.id, h.fix, h.cfg, Nat.min_le_right _ _, h.key⟩
def retireP (g : Nat) (S : Sto) (H : Nat → Hd) (id e : Int) (S' : Sto) (H' : Nat → Hd) : Prop :=
  (S.tab ≠ some g ∧ e = 10 ∧ S' = S ∧ H' = H) ∨
  (S.tab = some g ∧ ∃ (i : Nat) (c : Int), liveP H id i c ∧ ((c ≠ 0 ∧ e = c ∧ S' = S ∧ H' = H) ∨ (c = 0 ∧ putP S H i (H i).c.retiring e S' H')))
set_option maxRecDepth 100000 in
set_option maxHeartbeats 4000000 in
theorem retire_any (g sx : Nat) (H : Nat → Hd) (S : Sto) (id : Int) (hH : TOk H) (hl : S.left ≤ 9223372036854775807) (w : World) (h : TabP w g sx H) (hs : StoP w sx S) (ht : TabIn w S) :
    Calls Tryz.prog 46 #[ptr g, .int .i64 id] w fun e w' => ∃ (r : Int) (S' : Sto) (H' : Nat → Hd), e = .returned (.int .i64 r) ∧ retireP g S H id r S' H' ∧ StoP w' sx S' ∧ TabP w' g sx H' ∧ Fr [g, sx] w w' := by
  have ho := fun w h hs ht => over_any g sx H S w h hs ht
  have hv := fun w h => live_any g sx H id w h
  have hp := fun i c hi hc w h hs => putt_any g sx H S i c hi hc hl w h hs
  have hr := fun c w => retiring_any c w
  unfold ptr at ho hv hp ⊢
  have HO : Hid _ := ho
  have HV : Hid _ := hv
  have HP : Hid _ := hp
  have HR : Hid _ := hr
  have HT : Hid _ := ht
  have HTO : Hid _ := hH
  clear ho hv hp hr ht hH
  by_cases hov : S.tab = some g
  · rw [decide_eq_false (by simpa using hov)] at HO
    go_enter Tryz.func46, Tryz.ntmps46
    go_wp2_with fail
    refine (HO.out _ h hs HT.out).mono ?_
    rintro e w1 ⟨rfl, hw⟩
    rw [hw]
    go_wp2_with fail
    refine (HV.out _ h).mono ?_
    rintro e w2 ⟨⟨i, c, hL, rfl⟩, b2⟩
    have F2 : Fr [g, sx] w w2 := Fr.of_below _ b2 (Nat.le_refl _)
    have T2 : TabP w2 g sx H := Row.keep h b2 (Row.lt h)
    have S2 : StoP w2 sx S := Row.keep hs b2 (Row.lt hs)
    by_cases hc0 : c = 0
    · subst hc0
      have HL : Hid (liveP H id i 0) := hL
      have hi8 : i < 8 ∧ hit H id i := by
        rcases hL with ⟨a, b, _⟩ | ⟨_, _, h⟩ | ⟨_, _, h⟩
        · exact ⟨a, b⟩
        · simp at h
        · simp at h
      have hck := (HTO.out i hi8.1 hi8.2.1).retire
      have hi := hi8.1
      obtain ⟨d0, d1, d2, d3, d4, d5, d6, d7, d8, d9⟩ := T2.hd i hi
      have hr2 := HR.out (H i).c
      unfold clA clC at hr2
      have HR2 : Hid _ := hr2
      have HCK : Hid _ := hck
      clear hr2 hL hi8 hck HR
      go_wp2_with fail
      refine (HR2.out _).mono ?_
      rintro e w3 ⟨rfl, b3⟩
      have F3 := F2.trans (Fr.of_below _ b3 (Nat.le_refl _))
      have T3 : TabP w3 g sx H := Row.keep T2 b3 (Row.lt T2)
      have S3 : StoP w3 sx S := Row.keep S2 b3 (Row.lt S2)
      have hp2 := HP.out i (H i).c.retiring hi HCK.out w3 T3 S3
      unfold clA clC at hp2
      have HP2 : Hid _ := hp2
      clear hp2 HP HR2 d0 d1 d2 d3 d4 d5 d6 d7 d8 d9
      go_wp2_with fail
      refine Calls.mono HP2.out ?_
      rintro e w4 ⟨r, S', H', rfl, hP, S4, T4, F4⟩
      have HQ : Hid _ := And.intro hP (And.intro S4 (And.intro T4 (F3.trans F4)))
      clear hP S4 T4 F4 HP2
      go_wp2
      go_ret
      exact ⟨r, S', H', rfl, .inr ⟨hov, i, 0, HL.out, .inr ⟨rfl, HQ.out.1⟩⟩, HQ.out.2.1, HQ.out.2.2.1, HQ.out.2.2.2⟩
    · have ec : (c == 0) = false := by rw [beq_eq_false_iff_ne]; exact hc0
      have HL : Hid (liveP H id i c) := hL
      clear hL
      go_wp2
      go_ret
      exact ⟨c, S, H, rfl, .inr ⟨hov, i, c, HL.out, .inl ⟨hc0, rfl, rfl, rfl⟩⟩, S2, T2, F2⟩
  · rw [decide_eq_true (by simpa using hov)] at HO
    go_enter Tryz.func46, Tryz.ntmps46
    go_wp2_with fail
    refine (HO.out _ h hs HT.out).mono ?_
    rintro e w1 ⟨rfl, hw⟩
    rw [hw]
    go_wp2
    go_ret
    exact ⟨10, S, H, rfl, .inl ⟨hov, rfl, rfl, rfl⟩, hs, h, Fr.refl _ _⟩

def createP (g : Nat) (S : Sto) (H : Nat → Hd) (id : Int) (key fix : ByteArray) (s a m e : Int) (S' : Sto) (H' : Nat → Hd) : Prop :=
  (S.tab ≠ some g ∧ e = 10 ∧ S' = S ∧ H' = H) ∨
  (S.tab = some g ∧ ((¬ (0 ≤ id ∧ id ≤ 65535 ∧ fix.size = 4 ∧ CfgOk s a m) ∧ e = 1 ∧ S' = S ∧ H' = H) ∨
    ((0 ≤ id ∧ id ≤ 65535 ∧ fix.size = 4 ∧ CfgOk s a m) ∧ ((¬ KeyLen key.size ∧ e = 2 ∧ S' = S ∧ H' = H) ∨
      ∃ A : Nat, 1 ≤ A ∧ A ≤ 3 ∧ key.size = 8 + 8 * A ∧ (((∃ i, i < 8 ∧ hit H id i) ∧ e = 12 ∧ S' = S ∧ H' = H) ∨
        ((∀ j, j < 8 → ¬ hit H id j) ∧ (((∀ j, j < 8 → (H j).c.st ≠ 0) ∧ e = 13 ∧ S' = S ∧ H' = H) ∨
          ∃ i, i < 8 ∧ (H i).c.st = 0 ∧ (∀ j, j < i → (H j).c.st ≠ 0) ∧ putP S H i ⟨1, A, id.toNat, fix, s.toNat, a.toNat, m.toNat, 0, key⟩ e S' H')))))))
attribute [local go_sem ↓] al87 stw87
attribute [local go_sem] run_al87 run_stT87 stN_cl blk_new blk_at blk_old blk_drew blk_setCell blk_setRow alloc_setRow
set_option maxRecDepth 100000 in
set_option maxHeartbeats 4000000 in
theorem create_over (g sx : Nat) (H : Nat → Hd) (S : Sto) (id : Int) (key fix : ByteArray) (s a m : Int) (hov : S.tab ≠ some g) (w : World) (h : TabP w g sx H) (hs : StoP w sx S) (ht : TabIn w S) :
    Calls Tryz.prog 44 #[ptr g, .int .i64 id, .string key, .string fix, .agg #[.int .i64 s, .int .i64 a, .int .i64 m]] w fun e w' => e = .returned (.int .i64 10) ∧ Fr [] w w' := by
  have ho := fun w h hs ht => over_any g sx H S w h hs ht
  rw [decide_eq_true hov] at ho
  unfold ptr at ho ⊢
  have HO : Hid _ := ho
  have T1 : TabP (w.alloc (.cells #[.int .i64 s, .int .i64 a, .int .i64 m] 50)) g sx H := Row.alloc h _
  have S1 : StoP (w.alloc (.cells #[.int .i64 s, .int .i64 a, .int .i64 m] 50)) sx S := Row.alloc hs _
  have I1 : TabIn (w.alloc (.cells #[.int .i64 s, .int .i64 a, .int .i64 m] 50)) S := fun t e => let ⟨V, hV⟩ := ht t e; ⟨V, hV.alloc _⟩
  have HI : Hid _ := I1
  clear ho ht I1
  go_enter Tryz.func44, Tryz.ntmps44
  go_wp2_with fail
  refine (HO.out _ T1 S1 HI.out).mono ?_
  rintro e w1 ⟨rfl, hw⟩
  rw [hw]
  go_wp2
  go_ret
  exact ⟨rfl, (Fr.refl _ _).alloc _⟩
set_option maxRecDepth 100000 in
set_option maxHeartbeats 4000000 in
theorem create_arg (g sx : Nat) (H : Nat → Hd) (S : Sto) (id : Int) (key fix : ByteArray) (s a m : Int) (hov : S.tab = some g) (hbad : ¬ (0 ≤ id ∧ id ≤ 65535 ∧ fix.size = 4 ∧ CfgOk s a m)) (hf : fix.size ≤ maxLen) (w : World) (h : TabP w g sx H) (hs : StoP w sx S) (ht : TabIn w S) :
    Calls Tryz.prog 44 #[ptr g, .int .i64 id, .string key, .string fix, .agg #[.int .i64 s, .int .i64 a, .int .i64 m]] w fun e w' => e = .returned (.int .i64 1) ∧ Fr [] w w' := by
  have ho := fun w h hs ht => over_any g sx H S w h hs ht
  rw [decide_eq_false (by simpa using hov)] at ho
  have hn := fun w => cnew_arg id key fix s a m hbad hf w
  unfold ptr at ho ⊢
  unfold clA clC at hn
  have HO : Hid _ := ho
  have HN : Hid _ := hn
  have T1 : TabP (w.alloc (.cells #[.int .i64 s, .int .i64 a, .int .i64 m] 50)) g sx H := Row.alloc h _
  have S1 : StoP (w.alloc (.cells #[.int .i64 s, .int .i64 a, .int .i64 m] 50)) sx S := Row.alloc hs _
  have I1 : TabIn (w.alloc (.cells #[.int .i64 s, .int .i64 a, .int .i64 m] 50)) S := fun t e => let ⟨V, hV⟩ := ht t e; ⟨V, hV.alloc _⟩
  have HI : Hid _ := I1
  have F1 : Fr [] w (w.alloc (.cells #[.int .i64 s, .int .i64 a, .int .i64 m] 50)) := (Fr.refl _ _).alloc _
  clear ho ht I1 hn hbad hf
  go_enter Tryz.func44, Tryz.ntmps44
  go_wp2_with fail
  refine (HO.out _ T1 S1 HI.out).mono ?_
  rintro e w1 ⟨rfl, hw⟩
  rw [hw]
  go_wp2_with fail
  refine (HN.out _).mono ?_
  rintro e w2 ⟨rfl, b2⟩
  have F2 := F1.trans (Fr.of_below [] b2 (Nat.le_refl _))
  unfold zCl
  go_wp2
  go_ret
  exact ⟨rfl, F2.alloc _⟩
set_option maxRecDepth 100000 in
set_option maxHeartbeats 8000000 in
theorem create_go (g sx : Nat) (H : Nat → Hd) (S : Sto) (I : Nat) (key fix : ByteArray) (s a m : Nat) (hov : S.tab = some g) (hI : I ≤ 65535) (hf : fix.size = 4) (hcf : CfgOk s a m) (hk : key.size ≤ maxLen) (hl : S.left ≤ 9223372036854775807) (w : World) (h : TabP w g sx H) (hs : StoP w sx S) (ht : TabIn w S) :
    Calls Tryz.prog 44 #[ptr g, .int .i64 I, .string key, .string fix, .agg #[.int .i64 s, .int .i64 a, .int .i64 m]] w fun e w' => ∃ (r : Int) (S' : Sto) (H' : Nat → Hd), e = .returned (.int .i64 r) ∧ createP g S H I key fix s a m r S' H' ∧ StoP w' sx S' ∧ TabP w' g sx H' ∧ Fr [g, sx] w w' := by
  have hgood : 0 ≤ (I : Int) ∧ (I : Int) ≤ 65535 ∧ fix.size = 4 ∧ CfgOk s a m := ⟨by omega, by omega, hf, hcf⟩
  have ho := fun w h hs ht => over_any g sx H S w h hs ht
  rw [decide_eq_false (by simpa using hov)] at ho
  have hn := fun w => cnew_ok I key fix s a m hI hf hcf hk w
  have hh := fun w h => has_any g sx H I w h
  have hfr := fun w h => free_any g sx H w h
  have hp := fun i c hi hc w h hs => putt_any g sx H S i c hi hc hl w h hs
  have hcl : ∀ A : Nat, 1 ≤ A → A ≤ 3 → key.size = 8 + 8 * A → ClOk ⟨1, A, I, fix, s, a, m, 0, key⟩ := fun A h1 h2 h3 => ⟨.inl rfl, ⟨h1, h2⟩, hI, hf, hcf, Nat.zero_le _, by simp [h3]⟩
  unfold ptr at ho hh hfr hp ⊢
  have HO : Hid _ := ho
  have HN : Hid _ := hn
  have HH : Hid _ := hh
  have HR : Hid _ := hfr
  have HP : Hid _ := hp
  have HC : Hid _ := hcl
  have HG : Hid _ := hgood
  have T1 : TabP (w.alloc (.cells #[.int .i64 s, .int .i64 a, .int .i64 m] 50)) g sx H := Row.alloc h _
  have S1 : StoP (w.alloc (.cells #[.int .i64 s, .int .i64 a, .int .i64 m] 50)) sx S := Row.alloc hs _
  have I1 : TabIn (w.alloc (.cells #[.int .i64 s, .int .i64 a, .int .i64 m] 50)) S := fun t e => let ⟨V, hV⟩ := ht t e; ⟨V, hV.alloc _⟩
  have HI : Hid _ := I1
  have F1 : Fr [g, sx] w (w.alloc (.cells #[.int .i64 s, .int .i64 a, .int .i64 m] 50)) := (Fr.refl _ _).alloc _
  clear ho ht I1 hn hh hfr hp hcl hgood hcf hk
  go_enter Tryz.func44, Tryz.ntmps44
  go_wp2_with fail
  refine (HO.out _ T1 S1 HI.out).mono ?_
  rintro e w1 ⟨rfl, hw⟩
  rw [hw]
  go_wp2_with fail
  refine (HN.out _).mono ?_
  rintro e w2 ⟨⟨hkn, rfl⟩ | ⟨A, a1, a2, a3, rfl⟩, b2⟩
  · have F2 := F1.trans (Fr.of_below [g, sx] b2 (Nat.le_refl _))
    have T2 : TabP w2 g sx H := Row.keep T1 b2 (Row.lt T1)
    have S2 : StoP w2 sx S := Row.keep S1 b2 (Row.lt S1)
    have HK : Hid _ := hkn
    clear hkn
    unfold clA clC zCl
    go_wp2
    go_ret
    exact ⟨2, S, H, rfl, .inr ⟨hov, .inr ⟨HG.out, .inl ⟨HK.out, rfl, rfl, rfl⟩⟩⟩, Row.alloc S2 _, Row.alloc T2 _, F2.alloc _⟩
  · have F2 := F1.trans (Fr.of_below [g, sx] b2 (Nat.le_refl _))
    have T2 : TabP w2 g sx H := Row.keep T1 b2 (Row.lt T1)
    have S2 : StoP w2 sx S := Row.keep S1 b2 (Row.lt S1)
    have hc := HC.out A a1 a2 a3
    have T3 : TabP (w2.alloc (.cells (clA ⟨1, A, I, fix, s, a, m, 0, key⟩) 87)) g sx H := Row.alloc T2 _
    have S3 : StoP (w2.alloc (.cells (clA ⟨1, A, I, fix, s, a, m, 0, key⟩) 87)) sx S := Row.alloc S2 _
    have F3 := F2.alloc (.cells (clA ⟨1, A, I, fix, s, a, m, 0, key⟩) 87)
    have r3 : (w2.alloc (.cells (clA ⟨1, A, I, fix, s, a, m, 0, key⟩) 87)).heap[w2.heap.size]? = some (.cells (clA ⟨1, A, I, fix, s, a, m, 0, key⟩) 87 (0, 0)) := heap_of_new _ _ _ rfl
    have HCK : Hid _ := hc
    have HA3 : Hid _ := a3
    clear hc b2 a3 T1 S1 F1
    unfold clA clC at T3 S3 F3 r3 ⊢
    go_wp2_with fail
    refine (HH.out _ T3).mono ?_
    rintro e w4 ⟨⟨hex, rfl⟩ | ⟨hno, rfl⟩, b4⟩
    · have F4 := F3.trans (Fr.of_below [g, sx] b4 (Nat.le_refl _))
      have HX : Hid _ := hex
      have T4 : TabP w4 g sx H := Row.keep T3 b4 (Row.lt T3)
      have S4 : StoP w4 sx S := Row.keep S3 b4 (Row.lt S3)
      clear hex
      go_wp2
      go_ret
      exact ⟨12, S, H, rfl, .inr ⟨hov, .inr ⟨HG.out, .inr ⟨A, a1, a2, HA3.out, .inl ⟨HX.out, rfl, rfl, rfl⟩⟩⟩⟩, S4, T4, F4⟩
    · have F4 := F3.trans (Fr.of_below [g, sx] b4 (Nat.le_refl _))
      have HX : Hid _ := hno
      have T4 : TabP w4 g sx H := Row.keep T3 b4 (Row.lt T3)
      have S4 : StoP w4 sx S := Row.keep S3 b4 (Row.lt S3)
      have r4 : w4.heap[w2.heap.size]? = some (.cells #[.int .i64 ((1 : Nat) : Int), .int .i64 A, .int .i64 I, .string fix, .int .i64 s, .int .i64 a, .int .i64 m, .int .i64 ((0 : Nat) : Int), .string key] 87 (0, 0)) := by rw [b4.block _ (by simp)]; exact r3
      clear hno b4 r3
      go_wp2_with fail
      refine (HR.out _ T4).mono ?_
      rintro e w5 ⟨⟨i, hi, h0, hm, rfl⟩ | ⟨hfull, rfl⟩, b5⟩
      · have F5 := F4.trans (Fr.of_below [g, sx] b5 (Nat.le_refl _))
        have T5 : TabP w5 g sx H := Row.keep T4 b5 (Row.lt T4)
        have S5 : StoP w5 sx S := Row.keep S4 b5 (Row.lt S4)
        have HM : Hid _ := And.intro h0 hm
        have r5 : w5.heap[w2.heap.size]? = some (.cells #[.int .i64 ((1 : Nat) : Int), .int .i64 A, .int .i64 I, .string fix, .int .i64 s, .int .i64 a, .int .i64 m, .int .i64 ((0 : Nat) : Int), .string key] 87 (0, 0)) := by
          rw [b5.block _ ?_]; exact r4
          rcases Nat.lt_or_ge w2.heap.size w4.heap.size with hlt | hge
          · exact hlt
          · rw [Array.getElem?_eq_none hge] at r4; cases r4
        obtain ⟨c0, c1, c2, c3, c4, c5, c6, c7, c8⟩ := cells9 r5
        have hp2 := HP.out i _ hi HCK.out w5 T5 S5
        unfold clA clC at hp2
        have HP2 : Hid _ := hp2
        clear hp2 h0 hm b5 r4 r5 HP
        go_wp2_with fail
        refine Calls.mono HP2.out ?_
        rintro e w6 ⟨r, S', H', rfl, hP, S6, T6, F6⟩
        have HQ : Hid _ := And.intro hP (And.intro S6 (And.intro T6 (F5.trans F6)))
        clear hP S6 T6 F6 HP2
        go_wp2
        go_ret
        exact ⟨r, S', H', rfl, .inr ⟨hov, .inr ⟨HG.out, .inr ⟨A, a1, a2, HA3.out, .inr ⟨HX.out, .inr ⟨i, hi, HM.out.1, HM.out.2, HQ.out.1⟩⟩⟩⟩⟩, HQ.out.2.1, HQ.out.2.2.1, HQ.out.2.2.2⟩
      · have F5 := F4.trans (Fr.of_below [g, sx] b5 (Nat.le_refl _))
        have T5 : TabP w5 g sx H := Row.keep T4 b5 (Row.lt T4)
        have S5 : StoP w5 sx S := Row.keep S4 b5 (Row.lt S4)
        have HM : Hid _ := hfull
        clear hfull b5
        go_wp2
        go_ret
        exact ⟨13, S, H, rfl, .inr ⟨hov, .inr ⟨HG.out, .inr ⟨A, a1, a2, HA3.out, .inr ⟨HX.out, .inl ⟨HM.out, rfl, rfl, rfl⟩⟩⟩⟩⟩, S5, T5, F5⟩
end Go.Proofs.YtgalgjmhdbncbaaGreat
namespace Go.Proofs.YtgalgjmhdbncbaaGreat
open Go.RowKit
attribute [local go_sem ↓] Go.wp_at_zero Go.wp_at_succ

theorem StoR.setWrites {w : World} {g gc : Nat} {d : Bool} {R : RSt} (h : Row w g 6 168 (refV gc R d)) (n : Nat) : Row (w.setCell ⟨g, 1, none⟩ (.int .i64 n)) g 6 168 (refV gc { R with writes := n } d) := by
  refine Row.congr (Row.set h 1 _) (fun j hj => ?_)
  by_cases e : j = 1
  · subst e; simp [refV]
  · simp [refV, e]
theorem StoR.setDue {w : World} {g gc : Nat} {d : Bool} {R : RSt} (h : Row w g 6 168 (refV gc R d)) (n : Nat) : Row (w.setCell ⟨g, 2, none⟩ (.int .i64 n)) g 6 168 (refV gc { R with due := n } d) := by
  refine Row.congr (Row.set h 2 _) (fun j hj => ?_)
  by_cases e : j = 2
  · subst e; simp [refV]
  · simp [refV, e]
theorem StoR.setDone {w : World} {g gc : Nat} {d : Bool} {R : RSt} (h : Row w g 6 168 (refV gc R d)) (b : Bool) : Row (w.setCell ⟨g, 3, none⟩ (.bool b)) g 6 168 (refV gc R b) := by
  refine Row.congr (Row.set h 3 _) (fun j hj => ?_)
  by_cases e : j = 3
  · subst e; simp [refV]
  · simp [refV, e]
theorem StoR.setCell {w : World} {gc : Nat} {c : Nat → ByteArray} (h : Row w gc 8 9 (fun j => .string (c j))) (k : Nat) (x : ByteArray) : Row (w.setCell ⟨gc, k, none⟩ (.string x)) gc 8 9 (fun j => .string ((fun j => if j = k then x else c j) j)) := by
  refine Row.congr (Row.set h k _) (fun j hj => ?_)
  by_cases e : j = k
  · subst e; simp
  · simp [e]
def wroteR (i : Int) (x : ByteArray) (R : RSt) : RSt := if inCell i = false then R else if 64 < x.size then R else { R with writes := R.writes + 1 }
theorem notIn (i : Int) (h : inCell i = false) : i < 0 ∨ 8 ≤ i := by
  have : ¬ (0 ≤ i ∧ i < 8) := by simpa [inCell] using h
  omega
set_option maxRecDepth 100000 in
set_option maxHeartbeats 1000000 in
theorem refWrite_any (g gc : Nat) (S : Sto) (R : RSt) (i : Int) (x : ByteArray) (hw : R.writes < 4611686018427387904) (w : World) (h : StoR w g gc S R) :
    Calls Tryz.prog 63 #[ptr g, .int .i64 i, .string x] w fun e w' => e = .returned (.int .i64 (writeM S i x)) ∧ StoR w' g gc (wroteM S i x) (wroteR i x R) ∧ Fr [g, gc] w w' := by
  unfold writeM wroteM wroteR
  by_cases hi : inCell i = false
  · rw [if_pos hi, if_pos hi, if_pos hi]
    unfold ptr
    rcases notIn i hi with hi | hi
    · go_enter Tryz.func63, Tryz.ntmps63
      go_wp2
      go_ret
      exact ⟨rfl, h, Fr.refl _ _⟩
    · have hn : (decide (i < 0)) = false := by simp; omega
      go_enter Tryz.func63, Tryz.ntmps63
      go_wp2
      go_ret
      exact ⟨rfl, h, Fr.refl _ _⟩
  · rw [if_neg hi, if_neg hi, if_neg hi]
    have hi : inCell i = true := by simpa using hi
    have hi' : 0 ≤ i ∧ i < 8 := by simpa [inCell] using hi
    obtain ⟨k, rfl⟩ : ∃ k : Nat, i = k := ⟨i.toNat, by omega⟩
    have hk : k < 8 := by omega
    rw [Int.toNat_natCast]
    clear hi hi'
    by_cases hz : 64 < x.size
    · rw [if_pos hz, if_pos hz, if_pos hz]
      unfold ptr
      go_enter Tryz.func63, Tryz.ntmps63
      go_wp2
      go_ret
      exact ⟨rfl, h, Fr.refl _ _⟩
    · rw [if_neg hz, if_neg hz, if_neg hz]
      unfold ptr
      have main : ∀ (d c : Bool) (S2 : Sto) (r : Int), ((R.writes : Int) + 1 == (R.due : Int)) = d → S.done = c → r = (if d then 8 else 0) → S2 = (if d = true ∧ c = false then { S with left := S.left - 1 } else { S with left := S.left - 1, cell := fun j => if j = k then x else S.cell j }) →
          Calls Tryz.prog 63 #[.pointer (some ⟨g, 0, none⟩), .int .i64 (k : Int), .string x] w fun e w' => e = .returned (.int .i64 r) ∧ StoR w' g gc S2 { R with writes := R.writes + 1 } ∧ Fr [g, gc] w w' := by
        intro d c S2 r hd hc hr hS2
        have hne := h.ne
        have H1 : Hid _ := h
        have hl := h.left
        have f1 := Row.frozen h.r 1
        have a1 := h.at1
        have hr1 := StoR.setWrites h.r (R.writes + 1)
        have hc1 := Row.other h.c (g' := g) (k := 1) (v := .int .i64 (R.writes + 1 : Nat)) (fun e => hne e.symm)
        rw [show ((R.writes + 1 : Nat) : Int) = (R.writes : Int) + 1 by omega] at hr1 hc1
        clear h
        have hwr : IntKind.i64.wrap ((R.writes : Int) + 1) = (R.writes : Int) + 1 := by
          have := wrap_i64_ediv ((R.writes : Int) + 1) 1 (by omega) (by omega) (by omega)
          rwa [Int.ediv_one] at this
        go_enter Tryz.func63, Tryz.ntmps63
        go_wp2_with fail
        suffices H : ∀ W, Row W g 6 168 (refV gc { R with writes := R.writes + 1 } S.done) → Row W gc 8 9 (fun j => .string (S.cell j)) → Fr [g, gc] w W → Code.wp Tryz.prog _ _ _ W from H _ hr1 hc1 (Fr.setCell (Fr.refl _ _) (.inr (by simp)) _)
        clear hr1 hc1 a1 f1
        intro W hr1 hc1 hf
        have b0 : W.cell? ⟨g, 0, none⟩ = some (.slice (some ⟨gc, 0, none⟩) 8 8) := by rw [Row.cell hr1 0 (by omega)]; rfl
        have b1 : W.cell? ⟨g, 1, none⟩ = some (.int .i64 ((R.writes : Int) + 1)) := by rw [Row.cell hr1 1 (by omega)]; rfl
        have b2 : W.cell? ⟨g, 2, none⟩ = some (.int .i64 R.due) := by rw [Row.cell hr1 2 (by omega)]; rfl
        have b3 : W.cell? ⟨g, 3, none⟩ = some (.bool S.done) := by rw [Row.cell hr1 3 (by omega)]; rfl
        have ck := Row.cell hc1 k hk
        have fk := Row.frozen hc1 k
        rw [hc] at b3 hr1
        go_region
        have hf2 := hf.drew
        have hr2 := hr1.drew
        have hc2 := hc1.drew
        have hcs := StoR.setCell hc2 k x
        have hrs := Row.other hr2 (g' := gc) (k := k) (v := .string x) hne
        have hfs := Fr.setCell hf2 (a := ⟨gc, k, none⟩) (.inr (by simp)) (.string x)
        clear H1 hf hr1 hc1
        cases d <;> cases c <;> simp only [Bool.false_eq_true, if_false, if_true, and_self, and_false, and_true, reduceCtorEq] at hr hS2 <;> subst hr <;> go_wp2 <;> go_ret <;> subst hS2
        · exact ⟨rfl, ⟨by dsimp only; first | exact hrs | (rw [hc]; exact hrs), hcs, by dsimp only; omega⟩, hfs⟩
        · exact ⟨rfl, ⟨by dsimp only; first | exact hrs | (rw [hc]; exact hrs), hcs, by dsimp only; omega⟩, hfs⟩
        · exact ⟨rfl, ⟨by dsimp only; first | exact hr2 | (rw [hc]; exact hr2), hc2, by dsimp only; omega⟩, hf2⟩
        · exact ⟨rfl, ⟨by dsimp only; first | exact hrs | (rw [hc]; exact hrs), hcs, by dsimp only; omega⟩, hfs⟩
      have hl := h.left
      have hd : ((R.writes : Int) + 1 == (R.due : Int)) = decide (S.left = 1) := by
        rw [Bool.eq_iff_iff, beq_iff_eq, decide_eq_true_iff]; omega
      refine main _ _ _ _ hd rfl ?_ ?_
      · simp
      · by_cases h1 : S.left = 1 ∧ S.done = false
        · rw [if_pos h1, if_pos (by simpa using h1)]
        · rw [if_neg h1, if_neg (by simpa using h1)]
def interR (k : Int) (R : RSt) : RSt := if k < 0 then R else { R with writes := 0, due := k.toNat }
set_option maxRecDepth 100000 in
set_option maxHeartbeats 1000000 in
theorem refInterrupt_any (g gc : Nat) (S : Sto) (R : RSt) (k : Int) (d : Bool) (w : World) (h : StoR w g gc S R) :
    Calls Tryz.prog 64 #[ptr g, .int .i64 k, .bool d] w fun e w' => e = .returned (.int .i64 (if k < 0 then 1 else 0)) ∧ StoR w' g gc (interM S k d) (interR k R) ∧ Chg g w w' := by
  unfold ptr interM interR
  by_cases hk : k < 0
  · rw [if_pos hk, if_pos hk, if_pos hk]
    go_enter Tryz.func64, Tryz.ntmps64
    go_wp2
    go_ret
    exact ⟨rfl, h, Chg.refl _ _⟩
  · rw [if_neg hk, if_neg hk, if_neg hk]
    obtain ⟨n, rfl⟩ : ∃ n : Nat, k = n := ⟨k.toNat, by omega⟩
    have a1 := h.at1
    have a2 := h.at2
    have a3 := h.at3
    have f1 := Row.frozen h.r 1
    have f2 := Row.frozen h.r 2
    have f3 := Row.frozen h.r 3
    go_enter Tryz.func64, Tryz.ntmps64
    go_wp2
    go_ret
    refine ⟨rfl, ⟨StoR.setDone (StoR.setDue (StoR.setWrites h.r 0) n) d, ?_, by simp⟩, Chg.setCell (Chg.setCell (Chg.setCell (Chg.refl _ _) _ _) _ _) _ _⟩
    exact ((h.c.other (fun e => h.ne e.symm)).other (fun e => h.ne e.symm)).other (fun e => h.ne e.symm)
end Go.Proofs.YtgalgjmhdbncbaaGreat
