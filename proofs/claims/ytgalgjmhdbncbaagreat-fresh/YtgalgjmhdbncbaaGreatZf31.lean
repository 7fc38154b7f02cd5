import Derived.Test.YtgalgjmhdbncbaaGreatZf30
namespace Go.Proofs.YtgalgjmhdbncbaaGreat
open Go.RowKit
attribute [local go_sem ↓] Go.wp_at_zero Go.wp_at_succ

set_option maxHeartbeats 1000000 in
theorem tooLong_any (m : ByteArray) (w : World) : Calls Tryz.prog 38 #[.string m] w fun e w' => e = .returned (.bool (decide (180 < m.size))) ∧ w' = w := by
  have e : decide (180 < m.size) = decide ((180 : Int) < (m.size : Int)) := by rw [decide_eq_decide]; omega
  rw [e]
  clear e
  go_enter Tryz.func38, Tryz.ntmps38
  go_wp2
  go_ret
  exact ⟨rfl, rfl⟩
def eT : ByteArray := ⟨#[]⟩
def sealP (g : Nat) (S : Sto) (H : Nat → Hd) (id : Int) (m p : ByteArray) (s : ByteArray) (e : Int) (S' : Sto) (H' : Nat → Hd) : Prop :=
  (S.tab ≠ some g ∧ s = ⟨#[]⟩ ∧ e = 10 ∧ S' = S ∧ H' = H) ∨
  (S.tab = some g ∧ ∃ (i : Nat) (c : Int), liveP H id i c ∧ ((c ≠ 0 ∧ s = ⟨#[]⟩ ∧ e = c ∧ S' = S ∧ H' = H) ∨ (c = 0 ∧
    (((180 < m.size ∨ (H i).c.most < p.size) ∧ s = ⟨#[]⟩ ∧ e = 4 ∧ S' = S ∧ H' = H) ∨
     (¬ (180 < m.size ∨ (H i).c.most < p.size) ∧
       (((H i).ctr = (H i).c.seals ∧ s = ⟨#[]⟩ ∧ e = 15 ∧ S' = S ∧ H' = H) ∨
        ((H i).ctr ≠ (H i).c.seals ∧
          (((H i).ctr ≠ (H i).c.res ∧ s = sealR (H i) m p ∧ e = 0 ∧ S' = S ∧ H' = bump H i) ∨
           ((H i).ctr = (H i).c.res ∧ ((S.left = 1 ∧ s = ⟨#[]⟩ ∧ e = 8 ∧ S' = { wroteM S i (cellT (H i).c.reserving) with tab := none } ∧ H' = H) ∨
              (S.left ≠ 1 ∧ s = sealR (H i) m p ∧ e = 0 ∧ S' = wroteM S i (cellT (H i).c.reserving) ∧ H' = bump (upd H i (H i).c.reserving) i)))))))))))
theorem sealR_upd (H : Nat → Hd) (i : Nat) (m p : ByteArray) : sealR (upd H i (H i).c.reserving i) m p = sealR (H i) m p := by
  unfold upd
  rw [if_pos rfl]
  rfl
set_option maxRecDepth 100000 in
set_option maxHeartbeats 8000000 in
theorem tseal_any (g sx : Nat) (H : Nat → Hd) (S : Sto) (id : Int) (m p : ByteArray) (hH : TOk H) (hct : ∀ i, i < 8 → (H i).c.st ≠ 0 → (H i).ctr ≤ 1000000) (hl : S.left ≤ 9223372036854775807) (w : World) (h : TabP w g sx H) (hs : StoP w sx S) (ht : TabIn w S) :
    Calls Tryz.prog 19 #[ptr g, .int .i64 id, .string m, .string p] w fun e w' => ∃ (s : ByteArray) (r : Int) (S' : Sto) (H' : Nat → Hd), e = .returned (.tuple #[.string s, .int .i64 r]) ∧ sealP g S H id m p s r S' H' ∧ StoP w' sx S' ∧ TabP w' g sx H' ∧ Fr [g, sx] w w' := by
  have ho := fun w h hs ht => over_any g sx H S w h hs ht
  have hv := fun w h => live_any g sx H id w h
  have hp := fun i c hi hc w h hs => putt_any g sx H S i c hi hc hl w h hs
  have hr := fun c h1 h2 w => reserving_any c h1 h2 w
  unfold ptr at ho hv hp ⊢
  have HO : Hid _ := ho
  have HV : Hid _ := hv
  have HP : Hid _ := hp
  have HR : Hid _ := hr
  have HT : Hid _ := ht
  have HTO : Hid _ := hH
  have HCT : Hid _ := hct
  clear ho hv hp hr ht hH hct
  by_cases hov : S.tab = some g
  · rw [decide_eq_false (by simpa using hov)] at HO
    go_enter Tryz.func19, Tryz.ntmps19
    go_wp2_with fail
    refine (HO.out _ h hs HT.out).mono ?_
    rintro e w1 ⟨rfl, hw⟩
    rw [hw]
    go_wp2_with fail
    refine (HV.out _ h).mono ?_
    rintro e w2 ⟨⟨i, c, hL, rfl⟩, b2⟩
    have F2 : Fr [g, sx] w w2 := Fr.of_below _ b2 (Nat.le_refl _)
    have T2 : TabP w2 g sx H := Row.keep h b2 (Row.lt h)
    have S2 : StoP w2 sx S := Row.keep hs b2 (Row.lt hs)
    clear b2
    by_cases hc0 : c = 0
    · subst hc0
      have HL : Hid (liveP H id i 0) := hL
      have hi8 : i < 8 ∧ hit H id i ∧ (H i).c.st ≠ 2 := by
        rcases hL with ⟨a, b, c, _⟩ | ⟨_, _, h⟩ | ⟨_, _, h⟩
        · exact ⟨a, b, c⟩
        · simp at h
        · simp at h
      obtain ⟨hi, ⟨hst, hid⟩, hn2⟩ := hi8
      have hck := HTO.out i hi hst
      have hst1 : (H i).c.st = 1 := by rcases hck.st with a | a; exact a; exact absurd a hn2
      have hct := HCT.out i hi hst
      have hcf := hck.cfg
      obtain ⟨⟨u1, u2⟩, ⟨u3, u4⟩, ⟨u5, u6⟩⟩ := hcf
      have hmost : (H i).c.most ≤ 200 := by omega
      have hres := hck.res
      have HCK : Hid _ := hck
      have HST : Hid _ := hst1
      have HOV : Hid _ := hov
      clear hL hck hst hid hn2 hst1 hov u1 u2 u3 u4 u5 u6
      by_cases hmz : 180 < m.size
      · go_wp2_with fail
        refine (tooLong_any m _).mono ?_
        rintro e w3 ⟨rfl, hw3⟩
        rw [hw3, decide_eq_true hmz]
        go_wp2
        go_ret2
        exact ⟨_, 4, S, H, rfl, .inr ⟨HOV.out, i, 0, HL.out, .inr ⟨rfl, .inl ⟨.inl hmz, rfl, rfl, rfl, rfl⟩⟩⟩, S2, T2, F2⟩
      · go_wp2_with fail
        refine (tooLong_any m _).mono ?_
        rintro e w3 ⟨rfl, hw3⟩
        rw [hw3, decide_eq_false hmz]
        have d6 := (T2.hd i hi).c6
        by_cases hpz : (H i).c.most < p.size
        · have hpz2 : ((H i).c.most : Int) < (p.size : Int) := by omega
          go_wp2
          go_ret2
          exact ⟨_, 4, S, H, rfl, .inr ⟨HOV.out, i, 0, HL.out, .inr ⟨rfl, .inl ⟨.inr hpz, rfl, rfl, rfl, rfl⟩⟩⟩, S2, T2, F2⟩
        · have hpz2 : ¬ (((H i).c.most : Int) < (p.size : Int)) := by omega
          have HNL : Hid (¬ (180 < m.size ∨ (H i).c.most < p.size)) := by rintro (a | a) <;> omega
          have hp200 : p.size ≤ 200 := by omega
          have hm180 : m.size ≤ 180 := by omega
          have hsp := fun W ha => spent_any g (1 + i * 10) (H i) W ha
          have hsh := fun W ha => short_any g (1 + i * 10) (H i) W ha
          have hse := fun H' W (hc : ClOk (H' i).c) hst hct hT => hseal_any g sx H' i m p hi hc hst hct hm180 hp200 W hT
          have HSP : Hid _ := hsp
          have HSH : Hid _ := hsh
          have HSE : Hid _ := hse
          clear hsp hsh hse hmz hpz
          go_wp2_with fail
          refine (HSP.out _ (T2.hd i hi)).mono ?_
          rintro e w4 ⟨rfl, b4⟩
          have F4 := F2.trans (Fr.of_below [g, sx] b4 (Nat.le_refl _))
          have T4 : TabP w4 g sx H := Row.keep T2 b4 (Row.lt T2)
          have S4 : StoP w4 sx S := Row.keep S2 b4 (Row.lt S2)
          clear b4 F2 d6
          by_cases hsp : (H i).ctr = (H i).c.seals
          · rw [decide_eq_true hsp]
            go_wp2
            go_ret2
            exact ⟨_, 15, S, H, rfl, .inr ⟨HOV.out, i, 0, HL.out, .inr ⟨rfl, .inr ⟨HNL.out, .inl ⟨hsp, rfl, rfl, rfl, rfl⟩⟩⟩⟩, S4, T4, F4⟩
          · rw [decide_eq_false hsp]
            go_wp2_with fail
            refine (HSH.out _ (T4.hd i hi)).mono ?_
            rintro e w5 ⟨rfl, b5⟩
            have F5 := F4.trans (Fr.of_below [g, sx] b5 (Nat.le_refl _))
            have T5 : TabP w5 g sx H := Row.keep T4 b5 (Row.lt T4)
            have S5 : StoP w5 sx S := Row.keep S4 b5 (Row.lt S4)
            have HNS : Hid _ := hsp
            clear b5 F4 hsp T2 S2
            by_cases hsh : (H i).ctr = (H i).c.res
            · rw [decide_eq_true hsh]
              obtain ⟨d0, d1, d2, d3, d4, d5, d6, d7, d8, d9⟩ := T5.hd i hi
              have hr2 := HR.out (H i).c (by have := HCK.out.cfg.1.2; omega) (by have := HCK.out.cfg.2.1.2; omega)
              unfold clA clC at hr2
              have HR2 : Hid _ := hr2
              have HSHR : Hid _ := hsh
              clear hr2 HR hsh
              go_wp2_with fail
              refine (HR2.out _).mono ?_
              rintro e w6 ⟨rfl, b6⟩
              have F6 := F5.trans (Fr.of_below [g, sx] b6 (Nat.le_refl _))
              have T6 : TabP w6 g sx H := Row.keep T5 b6 (Row.lt T5)
              have S6 : StoP w6 sx S := Row.keep S5 b6 (Row.lt S5)
              have hp2 := HP.out i (H i).c.reserving hi (ClOk.reserve HCK.out) w6 T6 S6
              unfold clA clC at hp2
              have HP2 : Hid _ := hp2
              clear hp2 HP HR2 b6 F5 d0 d1 d2 d3 d4 d5 d6 d7 d8 d9
              go_wp2_with fail
              refine Calls.mono HP2.out ?_
              rintro e w7 ⟨r, S', H', rfl, hP, S7, T7, F7⟩
              have F8 := F6.trans F7
              clear F6 F7 HP2
              rcases hP with ⟨hl1, rfl, hS', hH'⟩ | ⟨hl1, rfl, hS', hH'⟩
              · have HX : Hid _ := And.intro hS' hH'
                clear hS' hH'
                go_wp2
                go_ret2
                exact ⟨_, 8, S', H', rfl, .inr ⟨HOV.out, i, 0, HL.out, .inr ⟨rfl, .inr ⟨HNL.out, .inr ⟨HNS.out, .inr ⟨HSHR.out, .inl ⟨hl1, rfl, rfl, HX.out.1, HX.out.2⟩⟩⟩⟩⟩⟩, S7, T7, F8⟩
              · subst hH'
                have hs8 := HSE.out (upd H i (H i).c.reserving) w7 (by unfold upd; rw [if_pos rfl]; exact ClOk.reserve HCK.out) (by unfold upd; rw [if_pos rfl]; exact HST.out) (by unfold upd; rw [if_pos rfl]; exact hct) T7
                rw [sealR_upd] at hs8
                have HS8 : Hid _ := hs8
                have HX : Hid _ := hS'
                clear hs8 HSE hS'
                go_wp2_with fail
                refine Calls.mono HS8.out ?_
                rintro e w8 ⟨rfl, T8, F9⟩
                have hne : sx ≠ g := fun e => Row.ne T7 S7 (by decide) e.symm
                have S8 : StoP w8 sx S' := Row.fr S7 F9 (by simp; exact hne)
                have F10 := F8.trans (F9.sub (L' := [g, sx]) (by simp))
                clear HS8
                go_wp2
                go_ret2
                exact ⟨_, 0, S', _, rfl, .inr ⟨HOV.out, i, 0, HL.out, .inr ⟨rfl, .inr ⟨HNL.out, .inr ⟨HNS.out, .inr ⟨HSHR.out, .inr ⟨hl1, rfl, rfl, HX.out, rfl⟩⟩⟩⟩⟩⟩, S8, T8, F10⟩
            · rw [decide_eq_false hsh]
              have hs8 := HSE.out H w5 HCK.out HST.out hct T5
              have HS8 : Hid _ := hs8
              have HNR : Hid _ := hsh
              clear hs8 HSE hsh
              go_wp2_with fail
              refine Calls.mono HS8.out ?_
              rintro e w8 ⟨rfl, T8, F9⟩
              have hne : sx ≠ g := fun e => Row.ne T5 S5 (by decide) e.symm
              have S8 : StoP w8 sx S := Row.fr S5 F9 (by simp; exact hne)
              have F10 := F5.trans (F9.sub (L' := [g, sx]) (by simp))
              clear HS8
              go_wp2
              go_ret2
              exact ⟨_, 0, S, _, rfl, .inr ⟨HOV.out, i, 0, HL.out, .inr ⟨rfl, .inr ⟨HNL.out, .inr ⟨HNS.out, .inl ⟨HNR.out, rfl, rfl, rfl, rfl⟩⟩⟩⟩⟩, S8, T8, F10⟩
    · have ec : (c == 0) = false := by rw [beq_eq_false_iff_ne]; exact hc0
      have HL : Hid (liveP H id i c) := hL
      clear hL
      go_wp2
      go_ret2
      exact ⟨_, c, S, H, rfl, .inr ⟨hov, i, c, HL.out, .inl ⟨hc0, rfl, rfl, rfl, rfl⟩⟩, S2, T2, F2⟩
  · rw [decide_eq_true (by simpa using hov)] at HO
    go_enter Tryz.func19, Tryz.ntmps19
    go_wp2_with fail
    refine (HO.out _ h hs HT.out).mono ?_
    rintro e w1 ⟨rfl, hw⟩
    rw [hw]
    go_wp2
    go_ret2
    exact ⟨_, 10, S, H, rfl, .inl ⟨hov, rfl, rfl, rfl, rfl⟩, hs, h, Fr.refl _ _⟩
end Go.Proofs.YtgalgjmhdbncbaaGreat
