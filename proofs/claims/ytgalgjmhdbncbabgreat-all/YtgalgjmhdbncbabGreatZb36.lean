import Derived.Test.YtgalgjmhdbncbabGreatZb35
import Derived.Test.YtgalgjmhdbncbabGreatZb00
import Derived.Test.YtgalgjmhdbncbabGreatZb31
namespace Go.Proofs.YtgalgjmhdbncbabGreat
open Go.RowKit
attribute [local go_sem ↓] Go.wp_at_zero Go.wp_at_succ

set_option maxHeartbeats 1000000 in
theorem tooLong_any (m : ByteArray) (w : World) : Calls Tryz.prog 66 #[.string m] w fun e w' => e = .returned (.bool (decide (180 < m.size))) ∧ w' = w := by
  have e : decide (180 < m.size) = decide ((180 : Int) < (m.size : Int)) := by rw [decide_eq_decide]; omega
  rw [e]
  clear e
  go_enter Tryz.func66, Tryz.ntmps66
  go_wp2
  go_ret
  exact ⟨rfl, rfl⟩
def eT : ByteArray := ⟨#[]⟩
def sealP (g : Nat) (S : Sto) (H : Nat → Hd) (id : Int) (m p : ByteArray) (s : ByteArray) (e : Int) (S' : Sto) (H' : Nat → Hd) : Prop :=
  (S.tab ≠ some g ∧ s = ⟨#[]⟩ ∧ e = 10 ∧ S' = S ∧ H' = H) ∨
  (S.tab = some g ∧ ∃ (i : Nat) (c : Int), liveP H id i c ∧ ((c ≠ 0 ∧ s = ⟨#[]⟩ ∧ e = c ∧ S' = S ∧ H' = H) ∨ (c = 0 ∧
    (((180 < m.size ∨ (H i).c.most < p.size) ∧ s = ⟨#[]⟩ ∧ e = 4 ∧ S' = S ∧ H' = H) ∨
     (¬ (180 < m.size ∨ (H i).c.most < p.size) ∧
       (((H i).ctr = (H i).c.seals ∧ s = ⟨#[]⟩ ∧ e = 15 ∧ S' = S ∧ H' = H) ∨
        ((H i).ctr ≠ (H i).c.seals ∧
          (((H i).ctr ≠ (H i).c.res ∧ s = sealR (H i) m p ∧ e = 0 ∧ S' = S ∧ H' = bump H i) ∨
           ((H i).ctr = (H i).c.res ∧ ((S.left = 1 ∧ s = ⟨#[]⟩ ∧ e = 8 ∧ S' = { wroteM S i (cellT (H i).c.reserving) with tab := none } ∧ H' = H) ∨
              (S.left ≠ 1 ∧ s = sealR (H i) m p ∧ e = 0 ∧ S' = wroteM S i (cellT (H i).c.reserving) ∧ H' = bump (upd H i (H i).c.reserving) i)))))))))))
theorem sealR_upd (H : Nat → Hd) (i : Nat) (m p : ByteArray) : sealR (upd H i (H i).c.reserving i) m p = sealR (H i) m p := by
  unfold upd
  rw [if_pos rfl]
  rfl
set_option maxRecDepth 100000 in
set_option maxHeartbeats 8000000 in
theorem tseal_any (g sx : Nat) (H : Nat → Hd) (S : Sto) (id : Int) (m p : ByteArray) (hH : TOk H) (hct : ∀ i, i < 8 → (H i).c.st ≠ 0 → (H i).ctr ≤ 1000000) (hl : S.left ≤ 9223372036854775807) (w : World) (h : TabP w g sx H) (hs : StoP w sx S) (ht : TabIn w S) :
    Calls Tryz.prog 30 #[ptr g, .int .i64 id, .string m, .string p] w fun e w' => ∃ (s : ByteArray) (r : Int) (S' : Sto) (H' : Nat → Hd), e = .returned (.tuple #[.string s, .int .i64 r]) ∧ sealP g S H id m p s r S' H' ∧ StoP w' sx S' ∧ TabP w' g sx H' ∧ Fr [g, sx] w w' := by
  have ho := fun w h hs ht => over_any g sx H S w h hs ht
  have hv := fun w h => live_any g sx H id w h
  have hp := fun i c hi hc w h hs => putt_any g sx H S i c hi hc hl w h hs
  have hr := fun c h1 h2 w => reserving_any c h1 h2 w
  unfold ptr at ho hv hp ⊢
  have HO : Hid _ := ho
  have HV : Hid _ := hv
  have HP : Hid _ := hp
  have HR : Hid _ := hr
  have HT : Hid _ := ht
  have HTO : Hid _ := hH
  have HCT : Hid _ := hct
  clear ho hv hp hr ht hH hct
  by_cases hov : S.tab = some g
  · rw [decide_eq_false (by simpa using hov)] at HO
    go_enter Tryz.func30, Tryz.ntmps30
    go_wp2_with fail
    refine (HO.out _ h hs HT.out).mono ?_
    rintro e w1 ⟨rfl, hw⟩
    rw [hw]
    go_wp2_with fail
    refine (HV.out _ h).mono ?_
    rintro e w2 ⟨⟨i, c, hL, rfl⟩, b2⟩
    have F2 : Fr [g, sx] w w2 := Fr.of_below _ b2 (Nat.le_refl _)
    have T2 : TabP w2 g sx H := Row.keep h b2 (Row.lt h)
    have S2 : StoP w2 sx S := Row.keep hs b2 (Row.lt hs)
    clear b2
    by_cases hc0 : c = 0
    · subst hc0
      have HL : Hid (liveP H id i 0) := hL
      have hi8 : i < 8 ∧ hit H id i ∧ (H i).c.st ≠ 2 := by
        rcases hL with ⟨a, b, c, _⟩ | ⟨_, _, h⟩ | ⟨_, _, h⟩
        · exact ⟨a, b, c⟩
        · simp at h
        · simp at h
      obtain ⟨hi, ⟨hst, hid⟩, hn2⟩ := hi8
      have hck := HTO.out i hi hst
      have hst1 : (H i).c.st = 1 := by rcases hck.st with a | a; exact a; exact absurd a hn2
      have hct := HCT.out i hi hst
      have hcf := hck.cfg
      obtain ⟨⟨u1, u2⟩, ⟨u3, u4⟩, ⟨u5, u6⟩⟩ := hcf
      have hmost : (H i).c.most ≤ 200 := by omega
      have hres := hck.res
      have HCK : Hid _ := hck
      have HST : Hid _ := hst1
      have HOV : Hid _ := hov
      clear hL hck hst hid hn2 hst1 hov u1 u2 u3 u4 u5 u6
      by_cases hmz : 180 < m.size
      · go_wp2_with fail
        refine (tooLong_any m _).mono ?_
        rintro e w3 ⟨rfl, hw3⟩
        rw [hw3, decide_eq_true hmz]
        go_wp2
        go_ret2
        exact ⟨_, 4, S, H, rfl, .inr ⟨HOV.out, i, 0, HL.out, .inr ⟨rfl, .inl ⟨.inl hmz, rfl, rfl, rfl, rfl⟩⟩⟩, S2, T2, F2⟩
      · go_wp2_with fail
        refine (tooLong_any m _).mono ?_
        rintro e w3 ⟨rfl, hw3⟩
        rw [hw3, decide_eq_false hmz]
        have d6 := (T2.hd i hi).c6
        by_cases hpz : (H i).c.most < p.size
        · have hpz2 : ((H i).c.most : Int) < (p.size : Int) := by omega
          go_wp2
          go_ret2
          exact ⟨_, 4, S, H, rfl, .inr ⟨HOV.out, i, 0, HL.out, .inr ⟨rfl, .inl ⟨.inr hpz, rfl, rfl, rfl, rfl⟩⟩⟩, S2, T2, F2⟩
        · have hpz2 : ¬ (((H i).c.most : Int) < (p.size : Int)) := by omega
          have HNL : Hid (¬ (180 < m.size ∨ (H i).c.most < p.size)) := by rintro (a | a) <;> omega
          have hp200 : p.size ≤ 200 := by omega
          have hm180 : m.size ≤ 180 := by omega
          have hsp := fun W ha => spent_any g (1 + i * 10) (H i) W ha
          have hsh := fun W ha => short_any g (1 + i * 10) (H i) W ha
          have hse := fun H' W (hc : ClOk (H' i).c) hst hct hT => hseal_any g sx H' i m p hi hc hst hct hm180 hp200 W hT
          have HSP : Hid _ := hsp
          have HSH : Hid _ := hsh
          have HSE : Hid _ := hse
          clear hsp hsh hse hmz hpz
          go_wp2_with fail
          refine (HSP.out _ (T2.hd i hi)).mono ?_
          rintro e w4 ⟨rfl, b4⟩
          have F4 := F2.trans (Fr.of_below [g, sx] b4 (Nat.le_refl _))
          have T4 : TabP w4 g sx H := Row.keep T2 b4 (Row.lt T2)
          have S4 : StoP w4 sx S := Row.keep S2 b4 (Row.lt S2)
          clear b4 F2 d6
          by_cases hsp : (H i).ctr = (H i).c.seals
          · rw [decide_eq_true hsp]
            go_wp2
            go_ret2
            exact ⟨_, 15, S, H, rfl, .inr ⟨HOV.out, i, 0, HL.out, .inr ⟨rfl, .inr ⟨HNL.out, .inl ⟨hsp, rfl, rfl, rfl, rfl⟩⟩⟩⟩, S4, T4, F4⟩
          · rw [decide_eq_false hsp]
            go_wp2_with fail
            refine (HSH.out _ (T4.hd i hi)).mono ?_
            rintro e w5 ⟨rfl, b5⟩
            have F5 := F4.trans (Fr.of_below [g, sx] b5 (Nat.le_refl _))
            have T5 : TabP w5 g sx H := Row.keep T4 b5 (Row.lt T4)
            have S5 : StoP w5 sx S := Row.keep S4 b5 (Row.lt S4)
            have HNS : Hid _ := hsp
            clear b5 F4 hsp T2 S2
            by_cases hsh : (H i).ctr = (H i).c.res
            · rw [decide_eq_true hsh]
              obtain ⟨d0, d1, d2, d3, d4, d5, d6, d7, d8, d9⟩ := T5.hd i hi
              have hr2 := HR.out (H i).c (by have := HCK.out.cfg.1.2; omega) (by have := HCK.out.cfg.2.1.2; omega)
              unfold clA clC at hr2
              have HR2 : Hid _ := hr2
              have HSHR : Hid _ := hsh
              clear hr2 HR hsh
              go_wp2_with fail
              refine (HR2.out _).mono ?_
              rintro e w6 ⟨rfl, b6⟩
              have F6 := F5.trans (Fr.of_below [g, sx] b6 (Nat.le_refl _))
              have T6 : TabP w6 g sx H := Row.keep T5 b6 (Row.lt T5)
              have S6 : StoP w6 sx S := Row.keep S5 b6 (Row.lt S5)
              have hp2 := HP.out i (H i).c.reserving hi (ClOk.reserve HCK.out) w6 T6 S6
              unfold clA clC at hp2
              have HP2 : Hid _ := hp2
              clear hp2 HP HR2 b6 F5 d0 d1 d2 d3 d4 d5 d6 d7 d8 d9
              go_wp2_with fail
              refine Calls.mono HP2.out ?_
              rintro e w7 ⟨r, S', H', rfl, hP, S7, T7, F7⟩
              have F8 := F6.trans F7
              clear F6 F7 HP2
              rcases hP with ⟨hl1, rfl, hS', hH'⟩ | ⟨hl1, rfl, hS', hH'⟩
              · have HX : Hid _ := And.intro hS' hH'
                clear hS' hH'
                go_wp2
                go_ret2
                exact ⟨_, 8, S', H', rfl, .inr ⟨HOV.out, i, 0, HL.out, .inr ⟨rfl, .inr ⟨HNL.out, .inr ⟨HNS.out, .inr ⟨HSHR.out, .inl ⟨hl1, rfl, rfl, HX.out.1, HX.out.2⟩⟩⟩⟩⟩⟩, S7, T7, F8⟩
              · subst hH'
                have hs8 := HSE.out (upd H i (H i).c.reserving) w7 (by unfold upd; rw [if_pos rfl]; exact ClOk.reserve HCK.out) (by unfold upd; rw [if_pos rfl]; exact HST.out) (by unfold upd; rw [if_pos rfl]; exact hct) T7
                rw [sealR_upd] at hs8
                have HS8 : Hid _ := hs8
                have HX : Hid _ := hS'
                clear hs8 HSE hS'
                go_wp2_with fail
                refine Calls.mono HS8.out ?_
                rintro e w8 ⟨rfl, T8, F9⟩
                have hne : sx ≠ g := fun e => Row.ne T7 S7 (by decide) e.symm
                have S8 : StoP w8 sx S' := Row.fr S7 F9 (by simp; exact hne)
                have F10 := F8.trans (F9.sub (L' := [g, sx]) (by simp))
                clear HS8
                go_wp2
                go_ret2
                exact ⟨_, 0, S', _, rfl, .inr ⟨HOV.out, i, 0, HL.out, .inr ⟨rfl, .inr ⟨HNL.out, .inr ⟨HNS.out, .inr ⟨HSHR.out, .inr ⟨hl1, rfl, rfl, HX.out, rfl⟩⟩⟩⟩⟩⟩, S8, T8, F10⟩
            · rw [decide_eq_false hsh]
              have hs8 := HSE.out H w5 HCK.out HST.out hct T5
              have HS8 : Hid _ := hs8
              have HNR : Hid _ := hsh
              clear hs8 HSE hsh
              go_wp2_with fail
              refine Calls.mono HS8.out ?_
              rintro e w8 ⟨rfl, T8, F9⟩
              have hne : sx ≠ g := fun e => Row.ne T5 S5 (by decide) e.symm
              have S8 : StoP w8 sx S := Row.fr S5 F9 (by simp; exact hne)
              have F10 := F5.trans (F9.sub (L' := [g, sx]) (by simp))
              clear HS8
              go_wp2
              go_ret2
              exact ⟨_, 0, S, _, rfl, .inr ⟨HOV.out, i, 0, HL.out, .inr ⟨rfl, .inr ⟨HNL.out, .inr ⟨HNS.out, .inl ⟨HNR.out, rfl, rfl, rfl, rfl⟩⟩⟩⟩⟩, S8, T8, F10⟩
    · have ec : (c == 0) = false := by rw [beq_eq_false_iff_ne]; exact hc0
      have HL : Hid (liveP H id i c) := hL
      clear hL
      go_wp2
      go_ret2
      exact ⟨_, c, S, H, rfl, .inr ⟨hov, i, c, HL.out, .inl ⟨hc0, rfl, rfl, rfl, rfl⟩⟩, S2, T2, F2⟩
  · rw [decide_eq_true (by simpa using hov)] at HO
    go_enter Tryz.func30, Tryz.ntmps30
    go_wp2_with fail
    refine (HO.out _ h hs HT.out).mono ?_
    rintro e w1 ⟨rfl, hw⟩
    rw [hw]
    go_wp2
    go_ret2
    exact ⟨_, 10, S, H, rfl, .inl ⟨hov, rfl, rfl, rfl, rfl⟩, hs, h, Fr.refl _ _⟩
end Go.Proofs.YtgalgjmhdbncbabGreat
namespace Go.Proofs.YtgalgjmhdbncbabGreat
open Go.RowKit
attribute [local go_sem ↓] Go.wp_at_zero Go.wp_at_succ

structure O4 (w W : World) (gr gm gc gt : Nat) (A I : Nat) (n b t key : ByteArray) : Prop where
  r : W.heap[gr]? = some (.cells #[.int .i64 A, .int .i64 I, .string n, .string b, .string t] 35 (0, 0))
  m : Mod W gm gc key
  t : Row W gt 16 141 (by8 (sf t))
  f : Fr [] w W
theorem O4.lt {w W : World} {gr gm gc gt A I : Nat} {n b t key : ByteArray} (s : O4 w W gr gm gc gt A I n b t key) : gr < W.heap.size := by
  rcases Nat.lt_or_ge gr W.heap.size with hlt | hge
  · exact hlt
  · have := s.r; rw [Array.getElem?_eq_none hge] at this; cases this
theorem O4.drew {w W : World} {gr gm gc gt A I : Nat} {n b t key : ByteArray} (s : O4 w W gr gm gc gt A I n b t key) : O4 w W.drew gr gm gc gt A I n b t key := ⟨s.r, s.m.drew, s.t.drew, s.f.drew⟩
theorem O4.below {w W W' : World} {gr gm gc gt A I : Nat} {n b t key : ByteArray} (s : O4 w W gr gm gc gt A I n b t key) (hb : Below W.heap.size W W') : O4 w W' gr gm gc gt A I n b t key := ⟨by rw [hb.block _ s.lt]; exact s.r, s.m.keep hb, s.t.keep hb s.t.lt, s.f.trans (Fr.of_below [] hb (Nat.le_refl _))⟩
attribute [local go_sem ↓] ldw40 stw40 al40
attribute [local go_sem] run_ldT40 ldN_row run_stT40 stN_row stN_z run_al40
attribute [local go_sem] blk_new blk_at blk_old blk_drew blk_setCell blk_setRow alloc_setRow
def openV (key n m b t : ByteArray) : Value := if str 16 (tagF key (firstF key n) m b) = str 16 (sf t) then .tuple #[.string (maskT key (firstF key n) b), .bool true] else .tuple #[.string ⟨#[]⟩, .bool false]
set_option maxRecDepth 100000 in
set_option maxHeartbeats 8000000 in
theorem hopen_mid (g o : Nat) (h : Hd) (A I : Nat) (n b t m : ByteArray) (x : ByteArray) (ok : Bool) (hA : A = h.c.alg) (hc : ClOk h.c) (hs : h.c.st = 1) (hI : I ≤ 65535) (hn : n.size = 12) (hb : b.size ≤ 200) (ht : t.size = 16) (hm : m.size ≤ 180)
    (hop : ∀ gm gc W, Mod W gm gc h.c.key → Calls Tryz.prog 91 #[.pointer (some ⟨gm, 0, none⟩), .string n, .string (headT A I n b ++ m), .string b, .agg (arr 16 (by8 (sf t)))] W fun e w' => e = .returned (.tuple #[.string x, .bool ok]) ∧ Below W.heap.size W w')
    (w : World) (hg : g < w.heap.size) (ha : HdAt w g o h) :
    Calls Tryz.prog 105 #[.pointer (some ⟨g, o, none⟩), recV A I n b t, .string m] w fun e w' => e = .returned (.tuple #[.string x, .bool ok]) ∧ Fr [] w w' := by
  subst hA
  have hkey := hc.key
  rw [hs, if_pos rfl] at hkey
  have halg := hc.alg
  have hmx : h.c.key.size ≤ maxLen := by unfold maxLen; omega
  have hkl : KeyLen h.c.key.size := by unfold KeyLen; omega
  have hbnd := fun W => bound_any h.c.alg I n b t m halg.1 halg.2 hI hn hb (by omega) (by omega) W
  have hof := fun W => of_yes t W ht
  unfold recV at hbnd ⊢
  have HKM : Hid _ := hmx
  have HKL : Hid _ := hkl
  have BND : Hid _ := hbnd
  have MOP : Hid _ := hop
  have BOF : Hid _ := hof
  clear hmx hkl hbnd hop hof hkey hn ht
  have k0 := (Below.refl w.heap.size w).alloc (Nat.le_refl _) (.cells #[.int .i64 h.c.alg, .int .i64 I, .string n, .string b, .string t] 35)
  have ha1 := ha.below k0 hg
  have c8 := ha1.c8
  have c8' := ha.c8
  have F1 := Fr.of_below [] k0 (Nat.le_refl _)
  go_enter Tryz.func105, Tryz.ntmps105
  go_wp2_with fail
  refine (gnew_yes h.c.key HKM.out HKL.out _).mono ?_
  rintro e w4 ⟨gm, gc, rfl, hgm, hgc, M4, b4⟩
  have F4 := F1.trans (Fr.of_below [] b4 (Nat.le_refl _))
  have r4 : w4.heap[w.heap.size]? = some (.cells #[.int .i64 h.c.alg, .int .i64 I, .string n, .string b, .string t] 35 (0, 0)) := by rw [b4.block _ (by simp)]; exact heap_of_new _ _ _ rfl
  have ha4 : HdAt w4 g o h := ha1.below b4 (by simp; omega)
  have y4 := b4.size
  simp at y4
  clear b4 F1 c8 c8' ha1 k0 ha
  obtain ⟨q0, q1, q2, q3, q4⟩ := cells5 r4
  have c1 := ha4.c1
  go_wp2_with fail
  go_region
  have r5 : w4.drew.heap[w.heap.size]? = some (.cells #[.int .i64 h.c.alg, .int .i64 I, .string n, .string b, .string t] 35 (0, 0)) := r4
  have M5 := M4.drew
  have F5 := F4.drew
  have q5 : w4.drew.cell? ⟨w.heap.size, 4, none⟩ = some (.string t) := q4
  clear q0 q1 q2 q3 q4 c1 ha4 r4 M4 F4
  generalize w4.drew = w5 at *
  go_wp2_with fail
  refine (BOF.out _).mono ?_
  rintro e w6 ⟨rfl, b6⟩
  have Z4 : O4 w (w6.alloc (.cells (arr 16 (by8 (sf t))) 141)) w.heap.size gm gc w6.heap.size h.c.alg I n b t h.c.key := by
    have hl5 : w.heap.size < w5.heap.size := by
      rcases Nat.lt_or_ge w.heap.size w5.heap.size with hlt | hge
      · exact hlt
      · rw [Array.getElem?_eq_none hge] at r5; cases r5
    have y6 := b6.size
    refine ⟨heap_of_old _ _ _ _ (by omega) (by rw [b6.block _ hl5]; exact r5), (M5.keep b6).alloc _, Row.new _ _ _ _ _ rfl, (F5.trans (Fr.of_below [] b6 (Nat.le_refl _))).alloc _⟩
  clear b6 r5 M5 F5 q5
  go_wp2_with fail
  generalize w6.alloc (.cells (arr 16 (by8 (sf t))) 141) = W6 at *
  generalize w6.heap.size = gt at *
  obtain ⟨gr, hgr⟩ : ∃ gr, w.heap.size = gr := ⟨_, rfl⟩
  rw [hgr] at Z4 ⊢
  clear hgr
  refine wp_region_held_drew (S := fun W' => O4 w W' gr gm gc gt h.c.alg I n b t h.c.key) (by kernel_rfl) Z4.drew (fun hHeld => ?_)
  refine tp 0 _ ?r1
  refine nz ?_
  refine tp 1 _ ?r2
  refine nz ?_
  refine tk 2 ?v3 ?y3 ?r3
  case y3 => (intro W' hW; obtain ⟨q0, q1, q2, q3, q4⟩ := cells5 hW.r; go_simp; try with_reducible rfl)
  refine nz ?_
  refine tk 3 ?v4 ?y4 ?r4
  case y4 => (intro W' hW; obtain ⟨q0, q1, q2, q3, q4⟩ := cells5 hW.r; go_simp; try with_reducible rfl)
  refine nz ?_
  refine tp 4 _ ?r5
  refine nz ?_
  refine tp 6 _ ?r6
  refine nz ?_
  refine tk 7 ?v7 ?y7 ?r7
  case y7 => (intro W' hW; obtain ⟨q0, q1, q2, q3, q4⟩ := cells5 hW.r; go_simp; try with_reducible rfl)
  refine nz ?_
  refine tk 8 ?v8 ?y8 ?r8
  case y8 => (intro W' hW; have qt := heap_pos hW.t; go_simp; try with_reducible rfl)
  refine nz ?_
  refine wpAnyH_ready (rs := [5]) (by kernel_rfl) (by simp) ?_
  refine AllReadyH.cons rfl (fun K hK => ?_) ?nil5
  case nil5 => exact AllReadyH.nil
  go_simp
  refine (BND.out _).mono ?_
  rintro e wb ⟨rfl, bb⟩
  have Zb := O4.below hHeld bb
  go_wp2_with fail
  refine hK.out _ _ Zb (fun hHeld => ?_)
  clear hK K
  refine wpAnyH_ready (rs := [9]) (by kernel_rfl) (by simp) ?_
  refine AllReadyH.cons rfl (fun K hK => ?_) ?nil9
  case nil9 => exact AllReadyH.nil
  go_simp
  refine (MOP.out _ _ _ hHeld.m).mono ?_
  rintro e wc ⟨rfl, bc⟩
  have Zc := O4.below hHeld bc
  go_wp2_with fail
  refine hK.out _ _ Zc (fun hHeld => ?_)
  clear hK K
  refine tp 10 _ ?r9
  refine nz ?_
  refine tp 11 _ ?r10
  refine nz ?_
  refine tp 12 _ ?r11
  refine nz ?_
  refine tp 13 _ ?r12
  refine nz ?_
  refine wpAnyH_done (by kernel_rfl) ?_ _
  go_wp2
  go_ret2
  exact ⟨rfl, Zc.f⟩
set_option maxRecDepth 100000 in
set_option maxHeartbeats 8000000 in
theorem hopen_alg (g o : Nat) (h : Hd) (A I : Nat) (n b t m : ByteArray) (hA : A ≠ h.c.alg) (hc : ClOk h.c) (hs : h.c.st = 1)
    (w : World) (hg : g < w.heap.size) (ha : HdAt w g o h) :
    Calls Tryz.prog 105 #[.pointer (some ⟨g, o, none⟩), recV A I n b t, .string m] w fun e w' => e = .returned (.tuple #[.string ⟨#[]⟩, .bool false]) ∧ Fr [] w w' := by
  have hkey := hc.key
  rw [hs, if_pos rfl] at hkey
  have halg := hc.alg
  have hmx : h.c.key.size ≤ maxLen := by unfold maxLen; omega
  have hkl : KeyLen h.c.key.size := by unfold KeyLen; omega
  unfold recV
  have HKM : Hid _ := hmx
  have HKL : Hid _ := hkl
  clear hmx hkl hkey
  have k0 := (Below.refl w.heap.size w).alloc (Nat.le_refl _) (.cells #[.int .i64 A, .int .i64 I, .string n, .string b, .string t] 35)
  have ha1 := ha.below k0 hg
  have c8 := ha1.c8
  have c8' := ha.c8
  have F1 := Fr.of_below [] k0 (Nat.le_refl _)
  go_enter Tryz.func105, Tryz.ntmps105
  go_wp2_with fail
  refine (gnew_yes h.c.key HKM.out HKL.out _).mono ?_
  rintro e w4 ⟨gm, gc, rfl, hgm, hgc, M4, b4⟩
  have F4 := F1.trans (Fr.of_below [] b4 (Nat.le_refl _))
  have r4 : w4.heap[w.heap.size]? = some (.cells #[.int .i64 A, .int .i64 I, .string n, .string b, .string t] 35 (0, 0)) := by rw [b4.block _ (by simp)]; exact heap_of_new _ _ _ rfl
  have ha4 : HdAt w4 g o h := ha1.below b4 (by simp; omega)
  clear b4 F1 c8 c8' ha1 k0 ha
  obtain ⟨q0, q1, q2, q3, q4⟩ := cells5 r4
  have c1 := ha4.c1
  have eA : ((A : Int) == (h.c.alg : Int)) = false := by rw [beq_eq_false_iff_ne]; omega
  go_wp2_with fail
  go_region
  go_wp2
  go_ret2
  exact ⟨rfl, F4.drew⟩
def rA (s : ByteArray) : Nat := (sf s 3).toNat
def rI (s : ByteArray) : Nat := valF (sf s) 4 2
def rN (s : ByteArray) : ByteArray := s.extract 6 18
def rB (s : ByteArray) : ByteArray := s.extract 20 (20 + (sf s 19).toNat)
def rT (s : ByteArray) : ByteArray := s.extract (20 + (sf s 19).toNat) (36 + (sf s 19).toNat)
def tagOk (key rec m : ByteArray) : Prop := str 16 (tagF key (firstF key (rN rec)) (headT (rA rec) (rI rec) (rN rec) (rB rec) ++ m) (rB rec)) = str 16 (sf (rT rec))
def openR (h : Hd) (rec m s : ByteArray) (e : Int) : Prop :=
  ((rA rec ≠ h.c.alg ∨ ¬ tagOk h.c.key rec m) ∧ s = ⟨#[]⟩ ∧ e = 6) ∨ ((rA rec = h.c.alg ∧ tagOk h.c.key rec m) ∧ s = maskT h.c.key (firstF h.c.key (rN rec)) (rB rec) ∧ e = 0)
def openQ (H : Nat → Hd) (rec m s : ByteArray) (e : Int) : Prop :=
  (180 < m.size ∧ s = ⟨#[]⟩ ∧ e = 4) ∨ (m.size ≤ 180 ∧ (∃ p, badAt rec = some p) ∧ s = ⟨#[]⟩ ∧ e = 7) ∨
  (m.size ≤ 180 ∧ badAt rec = none ∧ ∃ (i : Nat) (c : Int), liveP H (rI rec : Nat) i c ∧ ((c ≠ 0 ∧ s = ⟨#[]⟩ ∧ e = c) ∨ (c = 0 ∧ openR (H i) rec m s e)))
def openP (g : Nat) (S : Sto) (H : Nat → Hd) (rec m s : ByteArray) (e : Int) : Prop := (S.tab ≠ some g ∧ s = ⟨#[]⟩ ∧ e = 10) ∨ (S.tab = some g ∧ openQ H rec m s e)
theorem hopen_any (g o : Nat) (h : Hd) (rec m : ByteArray) (hr : badAt rec = none) (hc : ClOk h.c) (hs : h.c.st = 1) (hm : m.size ≤ 180) (w : World) (hg : g < w.heap.size) (ha : HdAt w g o h) :
    Calls Tryz.prog 105 #[.pointer (some ⟨g, o, none⟩), recV (rA rec) (rI rec) (rN rec) (rB rec) (rT rec), .string m] w fun e w' => (∃ (s : ByteArray) (ok : Bool), e = .returned (.tuple #[.string s, .bool ok]) ∧ openR h rec m s (if ok then 0 else 6)) ∧ Fr [] w w' := by
  obtain ⟨hz, hR, hE⟩ := bad_none rec hr
  obtain ⟨a1, a2, a3, a4, a5, a6⟩ := hR
  have hkey := hc.key
  rw [hs, if_pos rfl] at hkey
  have halg := hc.alg
  have hkl : KeyLen h.c.key.size := by unfold KeyLen; omega
  have hmz : (headT (rA rec) (rI rec) (rN rec) (rB rec) ++ m).size ≤ 200 := by unfold headT; rw [ByteArray.size_append, str_size]; omega
  by_cases hA : rA rec = h.c.alg
  · by_cases hT : tagOk h.c.key rec m
    · refine Calls.mono (hopen_mid g o h (rA rec) (rI rec) (rN rec) (rB rec) (rT rec) m _ true hA hc hs a3 a4 a5 a6 hm (fun gm gc W hM => mopen_yes gm gc h.c.key (rN rec) _ (rB rec) (sf (rT rec)) hkl (by show (rN rec).size ≤ 40; have : (rN rec).size = 12 := a4; omega) hmz a5 hT W hM) w hg ha) ?_
      rintro e w' ⟨rfl, hF⟩
      exact ⟨⟨_, true, rfl, .inr ⟨⟨hA, hT⟩, rfl, rfl⟩⟩, hF⟩
    · refine Calls.mono (hopen_mid g o h (rA rec) (rI rec) (rN rec) (rB rec) (rT rec) m _ false hA hc hs a3 a4 a5 a6 hm (fun gm gc W hM => mopen_no gm gc h.c.key (rN rec) _ (rB rec) (sf (rT rec)) hkl (by show (rN rec).size ≤ 40; have : (rN rec).size = 12 := a4; omega) hmz a5 hT W hM) w hg ha) ?_
      rintro e w' ⟨rfl, hF⟩
      exact ⟨⟨_, false, rfl, .inl ⟨.inr hT, rfl, rfl⟩⟩, hF⟩
  · refine Calls.mono (hopen_alg g o h (rA rec) (rI rec) (rN rec) (rB rec) (rT rec) m hA hc hs w hg ha) ?_
    rintro e w' ⟨rfl, hF⟩
    exact ⟨⟨_, false, rfl, .inl ⟨.inl hA, rfl, rfl⟩⟩, hF⟩
end Go.Proofs.YtgalgjmhdbncbabGreat
