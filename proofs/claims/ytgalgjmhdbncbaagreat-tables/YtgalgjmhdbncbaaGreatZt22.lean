import Derived.Test.YtgalgjmhdbncbaaGreatZt00
import Derived.Test.YtgalgjmhdbncbaaGreatZt20
import Derived.Test.YtgalgjmhdbncbaaGreatZt21
namespace Go.Proofs.YtgalgjmhdbncbaaGreat
attribute [local bitvec_to_nat] Act.put List.getElem_toArray List.getElem_cons_zero List.getElem_cons_succ List.setIfInBounds_toArray List.set_cons_zero List.set_cons_succ
open Go.RowKit
attribute [local go_sem ↓] Go.wp_at_zero Go.wp_at_succ

structure OpR (W : World) (g gr gh o : Nat) (sh : Value) (x : Rh) (A I : Nat) (n b t : ByteArray) : Prop where
  a3 : W.cell? ⟨g, 3, none⟩ = some sh
  c0 : W.cell? ⟨gh, o, none⟩ = some (.int .i64 x.alg)
  c8 : W.cell? ⟨gh, o + 8, none⟩ = some (.string x.key)
  rr : W.heap[gr]? = some (.cells #[.int .i64 A, .int .i64 I, .string n, .string b, .string t] 52 (0, 0))
  lg : g < W.heap.size
  lh : gh < W.heap.size
theorem OpR.drew {W : World} {g gr gh o : Nat} {sh : Value} {x : Rh} {A I : Nat} {n b t : ByteArray} (s : OpR W g gr gh o sh x A I n b t) : OpR W.drew g gr gh o sh x A I n b t := ⟨s.a3, s.c0, s.c8, s.rr, s.lg, s.lh⟩
theorem OpR.below {W W' : World} {g gr gh o : Nat} {sh : Value} {x : Rh} {A I : Nat} {n b t : ByteArray} (s : OpR W g gr gh o sh x A I n b t) (hb : Below W.heap.size W W') : OpR W' g gr gh o sh x A I n b t :=
  ⟨by rw [hb.cell (p := ⟨g, 3, none⟩) s.lg]; exact s.a3, by rw [hb.cell (p := ⟨gh, o, none⟩) s.lh]; exact s.c0, by rw [hb.cell (p := ⟨gh, o + 8, none⟩) s.lh]; exact s.c8, by rw [hb.block gr (heap_lt s.rr)]; exact s.rr, Nat.lt_of_lt_of_le s.lg hb.size, Nat.lt_of_lt_of_le s.lh hb.size⟩
set_option maxRecDepth 100000 in
set_option maxHeartbeats 8000000 in
theorem ropen_any (B g gs gc num : Nat) (fl : Bool) (sh : Value) (hs : List Rh) (S : Sto) (R : RSt) (gp : Nat) (H : Nat → Hd) (rec m s : ByteArray) (r : Int) (hP : openP gp S H rec m s r) (hrel : RelH hs H) (hov : overB fl R.user num = true ↔ S.tab ≠ some gp) (hrz : rec.size ≤ maxLen) (hmz : m.size ≤ maxLen) (w : World) (t : TabR w B g gs num fl sh hs) (hS : StoR w gs gc S R) :
    Calls Tryz.prog 109 #[ptr g, .string rec, .string m] w fun e w' => e = .returned (.tuple #[.string s, .int .i64 r]) ∧ Below w.heap.size w w' := by
  have ho := fun w t h => rover_any B g gs gc num fl sh hs S R w t h
  have hpa := fun w => refParse_any rec hrz w
  have HT : Hid _ := t
  have HS : Hid _ := hS
  have HZ : Hid _ := hmz
  clear t hS hmz
  unfold ptr at ho ⊢
  rcases hP with ⟨h1, rfl, rfl⟩ | ⟨h1, hQ⟩
  · rw [hov.2 h1] at ho
    have HO : Hid _ := ho
    clear ho hpa h1 hov hrel
    go_enter Tryz.func109, Tryz.ntmps109
    go_wp2_with fail
    refine (HO.out _ HT.out HS.out).mono ?_
    rintro e w1 ⟨rfl, b1⟩
    go_wp2
    go_ret2
    exact ⟨rfl, b1⟩
  · have hof : overB fl R.user num = false := by
      rw [Bool.eq_false_iff]
      intro e
      exact hov.1 e h1
    rw [hof] at ho
    have HO : Hid _ := ho
    clear ho hov
    rcases hQ with ⟨h4, rfl, rfl⟩ | ⟨h4, ⟨p, hp⟩, rfl, rfl⟩ | ⟨h4, hb, i, c, hL, hc⟩
    · have e4 : (180 : Int) < (m.size : Int) := by omega
      clear hpa hrel h1
      go_enter Tryz.func109, Tryz.ntmps109
      go_wp2_with fail
      refine (HO.out _ HT.out HS.out).mono ?_
      rintro e w1 ⟨rfl, b1⟩
      go_wp2
      go_ret2
      exact ⟨rfl, b1⟩
    · have e4 : ¬ ((180 : Int) < (m.size : Int)) := by omega
      unfold refPV at hpa
      rw [hp] at hpa
      have HPA : Hid _ := hpa
      clear hpa hrel h1 hp
      go_enter Tryz.func109, Tryz.ntmps109
      go_wp2_with fail
      refine (HO.out _ HT.out HS.out).mono ?_
      rintro e w1 ⟨rfl, b1⟩
      go_wp2_with fail
      refine (HPA.out _).mono ?_
      rintro e w2 ⟨rfl, b2⟩
      have B2 := b1.trans (b2.mono b1.size)
      clear b1 b2
      unfold recV
      go_wp2
      go_ret2
      exact ⟨rfl, B2.alloc B2.size _⟩
    · have e4 : ¬ ((180 : Int) < (m.size : Int)) := by omega
      unfold refPV at hpa
      rw [hb] at hpa
      have hpa2 : ∀ w, Calls Tryz.prog 99 #[.string rec] w fun e w' => e = .returned (.tuple #[.agg #[.int .i64 (rA rec), .int .i64 (rI rec), .string (rN rec), .string (rB rec), .string (rT rec)], .int .i64 0, .int .i64 0]) ∧ Below w.heap.size w w' := hpa
      have HPA : Hid _ := hpa2
      have hm := fun w t h => rmay_live B g gs gc num fl sh hs S R H (rI rec : Nat) i c hrel hof hL w t h
      unfold ptr at hm
      have HM : Hid _ := hm
      have HB : Hid _ := hb
      have HC : Hid _ := hc
      have HRZ : Hid _ := hrz
      have H4 : Hid _ := h4
      have hrz20 : 20 ≤ rec.size := by
        have := (bad_none rec hb).z
        omega
      have i20 : (20 : Int) ≤ (rec.size : Int) := by omega
      have i21 : ¬ (9223372036854775807 < 20 + m.size) := by omega
      clear hpa hpa2 hm hb hc hrel h1 hL hrz h4
      go_enter Tryz.func109, Tryz.ntmps109
      go_wp2_with fail
      refine (HO.out _ HT.out HS.out).mono ?_
      rintro e w1 ⟨rfl, b1⟩
      go_wp2_with fail
      refine (HPA.out _).mono ?_
      rintro e w2 ⟨rfl, b2⟩
      have B3 := (b1.trans (b2.mono b1.size)).alloc (b1.trans (b2.mono b1.size)).size (.cells #[.int .i64 (rA rec), .int .i64 (rI rec), .string (rN rec), .string (rB rec), .string (rT rec)] 52)
      have r3 : (w2.alloc (.cells #[.int .i64 (rA rec), .int .i64 (rI rec), .string (rN rec), .string (rB rec), .string (rT rec)] 52)).heap[w2.heap.size]? = some (.cells #[.int .i64 (rA rec), .int .i64 (rI rec), .string (rN rec), .string (rB rec), .string (rT rec)] 52 (0, 0)) := heap_of_new _ _ _ rfl
      have t3 := HT.out.below B3
      have s3 := HS.out.below B3
      have HT3 : Hid _ := And.intro t3 s3
      have HB3 : Hid _ := B3
      have HR3 : Hid _ := r3
      clear b1 b2 t3 s3 B3 HT HS
      go_wp2_with fail
      refine (HM.out _ HT3.out.1 HT3.out.2).mono ?_
      rintro e w4 ⟨⟨hc0, k, x, hk, hp, i8, hx, hret, hst, rfl⟩ | ⟨hc0, rfl⟩, b4⟩
      · have B4 := HB3.out.trans (b4.mono HB3.out.size)
        have t4 := HT3.out.1.below b4
        have r4 : w4.heap[w2.heap.size]? = some (.cells #[.int .i64 (rA rec), .int .i64 (rI rec), .string (rN rec), .string (rB rec), .string (rT rec)] 52 (0, 0)) := by rw [b4.block _ (by simp)]; exact HR3.out
        obtain ⟨p, cap, rfl, hat⟩ := t4.sl
        obtain ⟨gh, rfl, hA, lh, _, _⟩ := hat k x hk
        have X4 : OpR w4 g w2.heap.size gh (k * 11) (.slice (some ⟨gh, 0, none⟩) hs.length cap) x (rA rec) (rI rec) (rN rec) (rB rec) (rT rec) := ⟨(cells4' t4.r).2.2.2, hA.c0, hA.c8, r4, t4.lt, lh⟩
        have hkl := getE_lt hk
        have hopen : openR (H i) rec m s r := by
          rcases HC.out with ⟨h, _⟩ | ⟨_, h⟩
          · exact absurd hc0 h
          · exact h
        have hkey : x.key = (H i).c.key := hx.key hst
        have hkz : KeyLen x.key.size := by
          rw [hkey, hx.ok.key, if_pos hst]
          have := hx.ok.alg
          unfold KeyLen
          omega
        have hop := fun w => ropen_rec x.key rec m HB.out hkz H4.out w
        have HOP : Hid _ := hop
        have halg := hx.alg
        have HB4 : Hid _ := B4
        clear hop hk hp hx hret hat hA t4 r4 b4 B4 HT3 HB3 HR3 HM HC
        by_cases hA : rA rec = (H i).c.alg
        · have HFIN : Hid ((tagOk x.key rec m → Hid ((maskT x.key (firstF x.key (rN rec)) (rB rec)) = s ∧ (0 : Int) = r)) ∧ (¬ tagOk x.key rec m → Hid ((⟨#[]⟩ : ByteArray) = s ∧ (6 : Int) = r))) := by
            rw [hkey]
            rcases hopen with ⟨h | h, rfl, rfl⟩ | ⟨⟨_, h⟩, rfl, rfl⟩
            · exact absurd hA h
            · exact ⟨fun h' => absurd h' h, fun _ => ⟨rfl, rfl⟩⟩
            · exact ⟨fun _ => ⟨rfl, rfl⟩, fun h' => absurd h h'⟩
          have ea : ((x.alg : Int) == (rA rec : Int)) = true := by rw [beq_iff_eq, halg, hA]
          clear hopen hkey hkz halg hA
          go_wp2_with fail
          refine wp_region_held_drew (S := fun W' => OpR W' g w2.heap.size gh (k * 11) (.slice (some ⟨gh, 0, none⟩) hs.length cap) x (rA rec) (rI rec) (rN rec) (rB rec) (rT rec)) (by kernel_rfl) X4.drew (fun hHeld => ?_)
          refine tk 0 ?v1 ?y1 ?r1
          case y1 => (intro W' hW; go_simp; try with_reducible rfl)
          try simp only [bitvec_to_nat]
          refine tk 1 ?v2 ?y2 ?r2
          case y2 => (intro W' hW; go_simp; try with_reducible rfl)
          try simp only [bitvec_to_nat]
          refine tk 2 ?v3 ?y3 ?r3
          case y3 => (intro W' hW; go_simp; try with_reducible rfl)
          try simp only [bitvec_to_nat]
          refine tk 3 ?v4 ?y4 ?r4
          case y4 => (intro W' hW; have a3 := hW.a3; go_simp; try with_reducible rfl)
          try simp only [bitvec_to_nat]
          refine tk 4 ?v5 ?y5 ?r5
          case y5 => (intro W' hW; go_simp; try with_reducible rfl)
          try simp only [bitvec_to_nat]
          refine tk 5 ?v6 ?y6 ?r6
          case y6 => (intro W' hW; go_simp; try with_reducible rfl)
          try simp only [bitvec_to_nat]
          refine tk 6 ?v7 ?y7 ?r7
          case y7 => (intro W' hW; go_simp; try with_reducible rfl)
          try simp only [bitvec_to_nat]
          refine tk 7 ?v8 ?y8 ?r8
          case y8 => (intro W' hW; have c0 := hW.c0; go_simp; try with_reducible rfl)
          try simp only [bitvec_to_nat]
          refine tk 8 ?v9 ?y9 ?r9
          case y9 => (intro W' hW; go_simp; try with_reducible rfl)
          try simp only [bitvec_to_nat]
          refine tk 9 ?v10 ?y10 ?r10
          case y10 => (intro W' hW; obtain ⟨r0, r1, r2, r3, r4⟩ := cells5 hW.rr; go_simp; try with_reducible rfl)
          try simp only [bitvec_to_nat]
          refine tk 10 ?v11 ?y11 ?r11
          case y11 => (intro W' hW; go_simp; try with_reducible rfl)
          try simp only [bitvec_to_nat]
          refine wpAnyH_done (by kernel_rfl) ?_ _
          have X5 := X4.drew
          have HB5 : Hid _ := HB4.out.drew
          clear X4 HB4
          go_wp2_with fail
          refine wp_region_held_drew (S := fun W' => OpR W' g w2.heap.size gh (k * 11) (.slice (some ⟨gh, 0, none⟩) hs.length cap) x (rA rec) (rI rec) (rN rec) (rB rec) (rT rec)) (by kernel_rfl) X5.drew (fun hHeld => ?_)
          refine tk 0 ?v12 ?y12 ?r12
          case y12 => (intro W' hW; go_simp; try with_reducible rfl)
          try simp only [bitvec_to_nat]
          refine tk 1 ?v13 ?y13 ?r13
          case y13 => (intro W' hW; go_simp; try with_reducible rfl)
          try simp only [bitvec_to_nat]
          refine tk 2 ?v14 ?y14 ?r14
          case y14 => (intro W' hW; go_simp; try with_reducible rfl)
          try simp only [bitvec_to_nat]
          refine tk 3 ?v15 ?y15 ?r15
          case y15 => (intro W' hW; have a3 := hW.a3; go_simp; try with_reducible rfl)
          try simp only [bitvec_to_nat]
          refine tk 4 ?v16 ?y16 ?r16
          case y16 => (intro W' hW; go_simp; try with_reducible rfl)
          try simp only [bitvec_to_nat]
          refine tk 5 ?v17 ?y17 ?r17
          case y17 => (intro W' hW; go_simp; try with_reducible rfl)
          try simp only [bitvec_to_nat]
          refine tk 6 ?v18 ?y18 ?r18
          case y18 => (intro W' hW; go_simp; try with_reducible rfl)
          try simp only [bitvec_to_nat]
          refine tk 7 ?v19 ?y19 ?r19
          case y19 => (intro W' hW; have c8 := hW.c8; go_simp; try with_reducible rfl)
          try simp only [bitvec_to_nat]
          refine tk 8 ?v20 ?y20 ?r20
          case y20 => (intro W' hW; go_simp; try with_reducible rfl)
          try simp only [bitvec_to_nat]
          refine tk 9 ?v21 ?y21 ?r21
          case y21 => (intro W' hW; obtain ⟨r0, r1, r2, r3, r4⟩ := cells5 hW.rr; go_simp; try with_reducible rfl)
          try simp only [bitvec_to_nat]
          refine tk 10 ?v22 ?y22 ?r22
          case y22 => (intro W' hW; go_simp; try with_reducible rfl)
          try simp only [bitvec_to_nat]
          refine tk 11 ?v23 ?y23 ?r23
          case y23 => (intro W' hW; go_simp; try with_reducible rfl)
          try simp only [bitvec_to_nat]
          refine tk 12 ?v24 ?y24 ?r24
          case y24 => (intro W' hW; go_simp; try with_reducible rfl)
          try simp only [bitvec_to_nat]
          refine tk 13 ?v25 ?y25 ?r25
          case y25 => (intro W' hW; go_simp; try with_reducible rfl)
          try simp only [bitvec_to_nat]
          refine tk 14 ?v26 ?y26 ?r26
          case y26 => (intro W' hW; go_simp; try with_reducible rfl)
          try simp only [bitvec_to_nat]
          refine tk 15 ?v27 ?y27 ?r27
          case y27 => (intro W' hW; go_simp; try with_reducible rfl)
          try simp only [bitvec_to_nat]
          refine wpAnyH_ready (rs := [16]) (by kernel_rfl) (by simp) ?_
          refine AllReadyH.cons rfl (fun K hK => ?_) ?nil16
          case nil16 => exact AllReadyH.nil
          go_simp
          refine Calls.mono (HOP.out _) ?_
          rintro e w6 ⟨hcase, b6⟩
          have X6 := X5.drew.below b6
          obtain ⟨sx, cx, rfl, HSX⟩ : ∃ sx cx, e = .returned (.tuple #[.string sx, .int .i64 cx]) ∧ Hid (sx = s ∧ cx = r) := by
            rcases hcase with ⟨hT, rfl⟩ | ⟨hT, rfl⟩
            · exact ⟨_, _, rfl, HFIN.out.1 hT⟩
            · exact ⟨_, _, rfl, HFIN.out.2 hT⟩
          clear hcase
          go_wp2_with fail
          refine hK.out _ _ X6 (fun hHeld => ?_)
          clear hK K
          refine tk 17 ?v28 ?y28 ?r28
          case y28 => (intro W' hW; go_simp; try with_reducible rfl)
          try simp only [bitvec_to_nat]
          refine tk 18 ?v29 ?y29 ?r29
          case y29 => (intro W' hW; go_simp; try with_reducible rfl)
          try simp only [bitvec_to_nat]
          refine tk 19 ?v30 ?y30 ?r30
          case y30 => (intro W' hW; go_simp; try with_reducible rfl)
          try simp only [bitvec_to_nat]
          refine tk 20 ?v31 ?y31 ?r31
          case y31 => (intro W' hW; go_simp; try with_reducible rfl)
          try simp only [bitvec_to_nat]
          refine tk 21 ?v32 ?y32 ?r32
          case y32 => (intro W' hW; go_simp; try with_reducible rfl)
          try simp only [bitvec_to_nat]
          refine wpAnyH_done (by kernel_rfl) ?_ _
          have B6 := HB5.out.drew.trans (b6.mono HB5.out.size)
          go_wp2
          go_ret2
          rw [← HSX.out.1, ← HSX.out.2]
          exact ⟨rfl, B6⟩
        · have hsr : s = ⟨#[]⟩ ∧ r = 6 := by
            rcases hopen with ⟨_, h1, h2⟩ | ⟨⟨h, _⟩, _⟩
            · exact ⟨h1, h2⟩
            · exact absurd h hA
          have HSR : Hid _ := hsr
          clear hsr
          have ea : ((x.alg : Int) == (rA rec : Int)) = false := by rw [beq_eq_false_iff_ne, halg]; omega
          clear hopen hkey hkz halg hA HOP
          go_wp2_with fail
          refine wp_region_held_drew (S := fun W' => OpR W' g w2.heap.size gh (k * 11) (.slice (some ⟨gh, 0, none⟩) hs.length cap) x (rA rec) (rI rec) (rN rec) (rB rec) (rT rec)) (by kernel_rfl) X4.drew (fun hHeld => ?_)
          refine tk 0 ?v33 ?y33 ?r33
          case y33 => (intro W' hW; go_simp; try with_reducible rfl)
          try simp only [bitvec_to_nat]
          refine tk 1 ?v34 ?y34 ?r34
          case y34 => (intro W' hW; go_simp; try with_reducible rfl)
          try simp only [bitvec_to_nat]
          refine tk 2 ?v35 ?y35 ?r35
          case y35 => (intro W' hW; go_simp; try with_reducible rfl)
          try simp only [bitvec_to_nat]
          refine tk 3 ?v36 ?y36 ?r36
          case y36 => (intro W' hW; have a3 := hW.a3; go_simp; try with_reducible rfl)
          try simp only [bitvec_to_nat]
          refine tk 4 ?v37 ?y37 ?r37
          case y37 => (intro W' hW; go_simp; try with_reducible rfl)
          try simp only [bitvec_to_nat]
          refine tk 5 ?v38 ?y38 ?r38
          case y38 => (intro W' hW; go_simp; try with_reducible rfl)
          try simp only [bitvec_to_nat]
          refine tk 6 ?v39 ?y39 ?r39
          case y39 => (intro W' hW; go_simp; try with_reducible rfl)
          try simp only [bitvec_to_nat]
          refine tk 7 ?v40 ?y40 ?r40
          case y40 => (intro W' hW; have c0 := hW.c0; go_simp; try with_reducible rfl)
          try simp only [bitvec_to_nat]
          refine tk 8 ?v41 ?y41 ?r41
          case y41 => (intro W' hW; go_simp; try with_reducible rfl)
          try simp only [bitvec_to_nat]
          refine tk 9 ?v42 ?y42 ?r42
          case y42 => (intro W' hW; obtain ⟨r0, r1, r2, r3, r4⟩ := cells5 hW.rr; go_simp; try with_reducible rfl)
          try simp only [bitvec_to_nat]
          refine tk 10 ?v43 ?y43 ?r43
          case y43 => (intro W' hW; go_simp; try with_reducible rfl)
          try simp only [bitvec_to_nat]
          refine wpAnyH_done (by kernel_rfl) ?_ _
          go_wp2
          go_ret2
          rw [HSR.out.1, HSR.out.2]
          exact ⟨rfl, HB4.out.drew⟩
      · have ec : (c == 0) = false := by rw [beq_eq_false_iff_ne]; exact hc0
        have hsr : s = ⟨#[]⟩ ∧ r = c := by
          rcases HC.out with ⟨_, h1, h2⟩ | ⟨h, _⟩
          · exact ⟨h1, h2⟩
          · exact absurd h hc0
        have HSR : Hid _ := hsr
        clear hsr
        have B4 := HB3.out.trans (b4.mono HB3.out.size)
        clear b4 HB3 HT3
        go_wp2
        go_ret2
        rw [HSR.out.1, HSR.out.2]
        exact ⟨rfl, B4⟩
end Go.Proofs.YtgalgjmhdbncbaaGreat
namespace Go.Proofs.YtgalgjmhdbncbaaGreat
open Go.RowKit
attribute [local go_sem ↓] Go.wp_at_zero Go.wp_at_succ

theorem TabIn.fr {w w' : World} {S : Sto} {L : List Nat} (h : TabIn w S) (hf : Fr L w w') (hL : ∀ t, S.tab = some t → t ∉ L) : TabIn w' S := fun t ht => by
  obtain ⟨V, hV⟩ := h t ht
  exact ⟨V, Row.fr hV hf (hL t ht)⟩
theorem create_any (g sx : Nat) (H : Nat → Hd) (S : Sto) (id : Int) (key fix : ByteArray) (s a m : Int) (hk : key.size ≤ maxLen) (hf : fix.size ≤ maxLen) (hl : S.left ≤ 9223372036854775807) (w : World) (h : TabP w g sx H) (hs : StoP w sx S) (ht : TabIn w S) :
    Calls Tryz.prog 44 #[ptr g, .int .i64 id, .string key, .string fix, .agg #[.int .i64 s, .int .i64 a, .int .i64 m]] w fun e w' => ∃ (r : Int) (S' : Sto) (H' : Nat → Hd), e = .returned (.int .i64 r) ∧ createP g S H id key fix s a m r S' H' ∧ StoP w' sx S' ∧ TabP w' g sx H' ∧ Fr [g, sx] w w' := by
  by_cases hov : S.tab = some g
  · by_cases hg : 0 ≤ id ∧ id ≤ 65535 ∧ fix.size = 4 ∧ CfgOk s a m
    · have hg' := hg
      obtain ⟨i1, i2, hf4, ⟨⟨s1, s2⟩, ⟨a1, a2⟩, ⟨m1, m2⟩⟩⟩ := hg'
      obtain ⟨I, rfl⟩ : ∃ I : Nat, id = I := ⟨id.toNat, by omega⟩
      obtain ⟨s, rfl⟩ : ∃ I : Nat, s = I := ⟨s.toNat, by omega⟩
      obtain ⟨a, rfl⟩ : ∃ I : Nat, a = I := ⟨a.toNat, by omega⟩
      obtain ⟨m, rfl⟩ : ∃ I : Nat, m = I := ⟨m.toNat, by omega⟩
      exact create_go g sx H S I key fix s a m hov (by omega) hf4 hg.2.2.2 hk hl w h hs ht
    · refine Calls.mono (create_arg g sx H S id key fix s a m hov hg hf w h hs ht) ?_
      rintro e w' ⟨rfl, hF⟩
      exact ⟨1, S, H, rfl, .inr ⟨hov, .inl ⟨hg, rfl, rfl, rfl⟩⟩, Row.fr hs hF (by simp), Row.fr h hF (by simp), hF.sub (by simp)⟩
  · refine Calls.mono (create_over g sx H S id key fix s a m hov w h hs ht) ?_
    rintro e w' ⟨rfl, hF⟩
    exact ⟨10, S, H, rfl, .inl ⟨hov, rfl, rfl, rfl⟩, Row.fr hs hF (by simp), Row.fr h hF (by simp), hF.sub (by simp)⟩

set_option maxRecDepth 100000 in
set_option maxHeartbeats 8000000 in
theorem lwork_create (w : World) (B gw : Nat) (r : Rg) (v : Vt) (o : OpA) (hk : o.kind = 21) (hs : o.s.size ≤ maxLen) (ht : o.t.size ≤ maxLen) (T : TabB w B r.gx r.gr r.num r.fl r.sh r.hs r.H v.gx v.gr v.S v.R) (Sb : StoB w v.gx v.gr v.gc v.S v.R) (hti : TabIn w v.S) (cz : ∀ j, j < 8 → (v.S.cell j).size ≤ 64) (hB : B ≤ w.heap.size) (hwr : v.R.writes < 4611686018427387904) :
    Calls Tryz.prog 32 #[ptr gw, .agg #[ptr r.gx, ptr r.gr], .agg (opC o)] w fun e w' => e = .returned (.bool true) ∧ ∃ r' v' c, Wrk w w' B r v r' v' ∧ createP r.gx v.S r.H o.a o.s o.t o.cs o.ca o.cm c v'.S r'.H := by
  have h1 := fun w h hp ht' => create_any r.gx v.gx r.H v.S o.a o.s o.t o.cs o.ca o.cm hs ht Sb.l w h hp ht'
  have h2 := fun c S' H' hP w hB t h => rcreate_any B r.gr v.gr v.gc r.num r.fl r.sh r.hs v.S v.R r.gx r.H o.a o.s o.t o.cs o.ca o.cm c S' H' hP T.rel T.ov hwr w hB t h
  have H1 : Hid _ := h1
  have H2 : Hid _ := h2
  clear h1 h2
  have F0 : Fr [] w ((w.alloc (.cells #[.pointer (some ⟨r.gx, 0, none⟩), .pointer (some ⟨r.gr, 0, none⟩)] 81)).alloc (.cells #[.int .i64 21, .int .i64 o.on, .int .i64 o.a, .bool o.yes, .string o.s, .string o.t, .string o.u, .string o.v, .int .i64 o.cs, .int .i64 o.ca, .int .i64 o.cm, .int .i64 o.ra, .int .i64 o.ri, .string o.rn, .string o.rb, .string o.rt] 54)) := ((Fr.refl _ _).alloc _).alloc _
  have q0 : ((w.alloc (.cells #[.pointer (some ⟨r.gx, 0, none⟩), .pointer (some ⟨r.gr, 0, none⟩)] 81)).alloc (.cells #[.int .i64 21, .int .i64 o.on, .int .i64 o.a, .bool o.yes, .string o.s, .string o.t, .string o.u, .string o.v, .int .i64 o.cs, .int .i64 o.ca, .int .i64 o.cm, .int .i64 o.ra, .int .i64 o.ri, .string o.rn, .string o.rb, .string o.rt] 54)).heap[w.heap.size]? = some (.cells #[.pointer (some ⟨r.gx, 0, none⟩), .pointer (some ⟨r.gr, 0, none⟩)] 81 (0, 0)) := heap_of_old _ _ _ _ (by simp) (heap_of_new _ _ _ rfl)
  have q1 : ((w.alloc (.cells #[.pointer (some ⟨r.gx, 0, none⟩), .pointer (some ⟨r.gr, 0, none⟩)] 81)).alloc (.cells #[.int .i64 21, .int .i64 o.on, .int .i64 o.a, .bool o.yes, .string o.s, .string o.t, .string o.u, .string o.v, .int .i64 o.cs, .int .i64 o.ca, .int .i64 o.cm, .int .i64 o.ra, .int .i64 o.ri, .string o.rn, .string o.rb, .string o.rt] 54)).heap[w.heap.size + 1]? = some (.cells #[.int .i64 21, .int .i64 o.on, .int .i64 o.a, .bool o.yes, .string o.s, .string o.t, .string o.u, .string o.v, .int .i64 o.cs, .int .i64 o.ca, .int .i64 o.cm, .int .i64 o.ra, .int .i64 o.ri, .string o.rn, .string o.rb, .string o.rt] 54 (0, 0)) := heap_of_new _ _ _ (by simp)
  have lx := Row.lt T.p
  have ly := Row.lt Sb.p
  have HX : Hid _ := And.intro (Row.fr (L := []) T.p F0 (by simp)) (And.intro (Row.fr (L := []) Sb.p F0 (by simp)) (TabIn.fr hti F0 (by simp)))
  have HF0 : Hid _ := F0
  have HQ : Hid _ := And.intro q0 q1
  have HTB : Hid _ := And.intro T (And.intro Sb (And.intro cz hB))
  clear F0 q0 q1 T Sb hti cz hB hwr
  unfold ptr at *
  rw [show Value.agg (opC o) = .agg #[.int .i64 o.kind, .int .i64 o.on, .int .i64 o.a, .bool o.yes, .string o.s, .string o.t, .string o.u, .string o.v, .int .i64 o.cs, .int .i64 o.ca, .int .i64 o.cm, .int .i64 o.ra, .int .i64 o.ri, .string o.rn, .string o.rb, .string o.rt] from rfl]
  rw [hk]
  have HK : Hid _ := hk
  clear hk
  go_enter Tryz.func32, Tryz.ntmps32
  go_wp2_with fail
  refine (H1.out _ HX.out.1 HX.out.2.1 HX.out.2.2).mono ?_
  rintro e w1 ⟨c, S', H', rfl, hP, p1, tp1, f1⟩
  have F1 := (HF0.out.sub (L' := [r.gx, v.gx]) (by simp)).trans f1
  have k0 := keepRow (g := w.heap.size) f1 HQ.out.1 (by simp; omega)
  have k1 := keepRow (g := w.heap.size + 1) f1 HQ.out.2 (by simp; omega)
  obtain ⟨y0, y1⟩ := cells2 k0
  obtain ⟨z0, z1, z2, z3, z4, z5, z6, z7, z8, z9, z10, z11, z12, z13, z14, z15⟩ := cellsF (o := { o with kind := 21 }) k1
  dsimp only at z0 z1 z2 z3 z4 z5 z6 z7 z8 z9 z10 z11 z12 z13 z14 z15
  obtain ⟨t1, s1⟩ := TabB.refs HTB.out.1 HTB.out.2.1 F1
  have HM : Hid _ := And.intro hP (And.intro p1 (And.intro tp1 (And.intro F1 (And.intro t1 s1))))
  have y9 := F1.size
  clear hP p1 tp1 f1 k0 k1 t1 s1 F1 H1 HX HF0 HQ
  go_wp2_with fail
  refine (H2.out c S' H' HM.out.1 _ (by have := HTB.out.2.2.2; omega) HM.out.2.2.2.2.1 HM.out.2.2.2.2.2).mono ?_
  rintro e w2 ⟨rfl, hR⟩
  have HR : Hid _ := hR
  clear hR H2 y0 y1 z0 z1 z2 z3 z4 z5 z6 z7 z8 z9 z10 z11 z12 z13 z14 z15
  go_wp2_with fail
  refine (lnum_any c _).mono ?_
  rintro e w3 ⟨rfl, hw3⟩
  rw [hw3]
  go_wp2
  go_ret
  obtain ⟨r', v', hW, e1, e2⟩ := Wrk.make HTB.out.1 HTB.out.2.1 HTB.out.2.2.1 (SOk.create HM.out.1) HM.out.2.1 HM.out.2.2.1 HM.out.2.2.2.1 HR.out
  exact ⟨rfl, r', v', c, hW, by rw [e1, e2]; exact HM.out.1⟩
set_option maxRecDepth 100000 in
set_option maxHeartbeats 8000000 in
theorem lwork_retire (w : World) (B gw : Nat) (r : Rg) (v : Vt) (o : OpA) (hk : o.kind = 25) (T : TabB w B r.gx r.gr r.num r.fl r.sh r.hs r.H v.gx v.gr v.S v.R) (Sb : StoB w v.gx v.gr v.gc v.S v.R) (hti : TabIn w v.S) (cz : ∀ j, j < 8 → (v.S.cell j).size ≤ 64) (hB : B ≤ w.heap.size) (hwr : v.R.writes < 4611686018427387904) :
    Calls Tryz.prog 32 #[ptr gw, .agg #[ptr r.gx, ptr r.gr], .agg (opC o)] w fun e w' => e = .returned (.bool true) ∧ ∃ r' v' c, Wrk w w' B r v r' v' ∧ retireP r.gx v.S r.H o.a c v'.S r'.H := by
  have h1 := fun w h hp ht' => retire_any r.gx v.gx r.H v.S o.a T.rel.tok Sb.l w h hp ht'
  have h2 := fun c S' H' hP w t h => rretire_any B r.gr v.gr v.gc r.num r.fl r.sh r.hs v.S v.R r.gx r.H o.a c S' H' hP T.rel T.ov hwr w t h
  have H1 : Hid _ := h1
  have H2 : Hid _ := h2
  have HTK : Hid _ := T.rel.tok
  clear h1 h2
  have F0 : Fr [] w ((w.alloc (.cells #[.pointer (some ⟨r.gx, 0, none⟩), .pointer (some ⟨r.gr, 0, none⟩)] 81)).alloc (.cells #[.int .i64 25, .int .i64 o.on, .int .i64 o.a, .bool o.yes, .string o.s, .string o.t, .string o.u, .string o.v, .int .i64 o.cs, .int .i64 o.ca, .int .i64 o.cm, .int .i64 o.ra, .int .i64 o.ri, .string o.rn, .string o.rb, .string o.rt] 54)) := ((Fr.refl _ _).alloc _).alloc _
  have q0 : ((w.alloc (.cells #[.pointer (some ⟨r.gx, 0, none⟩), .pointer (some ⟨r.gr, 0, none⟩)] 81)).alloc (.cells #[.int .i64 25, .int .i64 o.on, .int .i64 o.a, .bool o.yes, .string o.s, .string o.t, .string o.u, .string o.v, .int .i64 o.cs, .int .i64 o.ca, .int .i64 o.cm, .int .i64 o.ra, .int .i64 o.ri, .string o.rn, .string o.rb, .string o.rt] 54)).heap[w.heap.size]? = some (.cells #[.pointer (some ⟨r.gx, 0, none⟩), .pointer (some ⟨r.gr, 0, none⟩)] 81 (0, 0)) := heap_of_old _ _ _ _ (by simp) (heap_of_new _ _ _ rfl)
  have q1 : ((w.alloc (.cells #[.pointer (some ⟨r.gx, 0, none⟩), .pointer (some ⟨r.gr, 0, none⟩)] 81)).alloc (.cells #[.int .i64 25, .int .i64 o.on, .int .i64 o.a, .bool o.yes, .string o.s, .string o.t, .string o.u, .string o.v, .int .i64 o.cs, .int .i64 o.ca, .int .i64 o.cm, .int .i64 o.ra, .int .i64 o.ri, .string o.rn, .string o.rb, .string o.rt] 54)).heap[w.heap.size + 1]? = some (.cells #[.int .i64 25, .int .i64 o.on, .int .i64 o.a, .bool o.yes, .string o.s, .string o.t, .string o.u, .string o.v, .int .i64 o.cs, .int .i64 o.ca, .int .i64 o.cm, .int .i64 o.ra, .int .i64 o.ri, .string o.rn, .string o.rb, .string o.rt] 54 (0, 0)) := heap_of_new _ _ _ (by simp)
  have lx := Row.lt T.p
  have ly := Row.lt Sb.p
  have HX : Hid _ := And.intro (Row.fr (L := []) T.p F0 (by simp)) (And.intro (Row.fr (L := []) Sb.p F0 (by simp)) (TabIn.fr hti F0 (by simp)))
  have HF0 : Hid _ := F0
  have HQ : Hid _ := And.intro q0 q1
  have HTB : Hid _ := And.intro T (And.intro Sb (And.intro cz hB))
  clear F0 q0 q1 T Sb hti cz hB hwr
  unfold ptr at *
  rw [show Value.agg (opC o) = .agg #[.int .i64 o.kind, .int .i64 o.on, .int .i64 o.a, .bool o.yes, .string o.s, .string o.t, .string o.u, .string o.v, .int .i64 o.cs, .int .i64 o.ca, .int .i64 o.cm, .int .i64 o.ra, .int .i64 o.ri, .string o.rn, .string o.rb, .string o.rt] from rfl]
  rw [hk]
  have HK : Hid _ := hk
  clear hk
  go_enter Tryz.func32, Tryz.ntmps32
  go_wp2_with fail
  refine (H1.out _ HX.out.1 HX.out.2.1 HX.out.2.2).mono ?_
  rintro e w1 ⟨c, S', H', rfl, hP, p1, tp1, f1⟩
  have F1 := (HF0.out.sub (L' := [r.gx, v.gx]) (by simp)).trans f1
  have k0 := keepRow (g := w.heap.size) f1 HQ.out.1 (by simp; omega)
  have k1 := keepRow (g := w.heap.size + 1) f1 HQ.out.2 (by simp; omega)
  obtain ⟨y0, y1⟩ := cells2 k0
  obtain ⟨z0, z1, z2, z3, z4, z5, z6, z7, z8, z9, z10, z11, z12, z13, z14, z15⟩ := cellsF (o := { o with kind := 25 }) k1
  dsimp only at z0 z1 z2 z3 z4 z5 z6 z7 z8 z9 z10 z11 z12 z13 z14 z15
  obtain ⟨t1, s1⟩ := TabB.refs HTB.out.1 HTB.out.2.1 F1
  have HM : Hid _ := And.intro hP (And.intro p1 (And.intro tp1 (And.intro F1 (And.intro t1 s1))))
  clear hP p1 tp1 f1 k0 k1 t1 s1 F1 H1 HX HF0 HQ
  go_wp2_with fail
  refine (H2.out c S' H' HM.out.1 _ HM.out.2.2.2.2.1 HM.out.2.2.2.2.2).mono ?_
  rintro e w2 ⟨rfl, hR⟩
  have HR : Hid _ := hR
  clear hR H2 y0 y1 z0 z1 z2 z3 z4 z5 z6 z7 z8 z9 z10 z11 z12 z13 z14 z15
  go_wp2_with fail
  refine (lnum_any c _).mono ?_
  rintro e w3 ⟨rfl, hw3⟩
  rw [hw3]
  go_wp2
  go_ret
  obtain ⟨r', v', hW, e1, e2⟩ := Wrk.make HTB.out.1 HTB.out.2.1 HTB.out.2.2.1 (SOk.retire HM.out.1 HTK.out) HM.out.2.1 HM.out.2.2.1 HM.out.2.2.2.1 HR.out
  exact ⟨rfl, r', v', c, hW, by rw [e1, e2]; exact HM.out.1⟩
end Go.Proofs.YtgalgjmhdbncbaaGreat
namespace Go.Proofs.YtgalgjmhdbncbaaGreat
open Go.RowKit
attribute [local go_sem ↓] Go.wp_at_zero Go.wp_at_succ

structure SRg (W : World) (B gw g n : Nat) (sr : Value) (o : OpA) (xs : List Value) : Prop where
  c1 : W.cell? ⟨gw, 1, none⟩ = some sr
  op : W.heap[g]? = some (.cells (opC o) 54 (0, 0))
  ow : W.ownsRow B 81 2 sr n xs
theorem SRg.drew {W : World} {B gw g n : Nat} {sr : Value} {o : OpA} {xs : List Value} (h : SRg W B gw g n sr o xs) : SRg W.drew B gw g n sr o xs := ⟨h.c1, h.op, h.ow⟩
set_option maxRecDepth 100000 in
set_option maxHeartbeats 4000000 in
theorem step_worked (B gw n gv cap : Nat) (sv sr sg sw : Value) (o : OpA) (xs : List Value) (hv : sr = .slice (some ⟨gv, 0, none⟩) n cap) (hk : 20 < o.kind) (hon : -9223372036854775808 ≤ o.on ∧ o.on ≤ 9223372036854775807) (hpos : 0 < n) (hn2 : n ≤ 1152921504606846976)
    (w : World) (hw : Wld w gw sv sr sg sw) (ho : w.ownsRow B 81 2 sr n xs) (Q : World → Prop)
    (hst : ∀ q, q < n → ∀ W, SRg W B gw w.heap.size n sr o xs → Fr [] w W → ∃ gx gr, xs[q * 2]? = some (ptr gx) ∧ xs[q * 2 + 1]? = some (ptr gr) ∧ Calls Tryz.prog 32 #[ptr gw, .agg #[ptr gx, ptr gr], .agg (opC o)] W fun e w' => e = .returned (.bool true) ∧ SRg w' B gw w.heap.size n sr o xs ∧ Q w') :
    Calls Tryz.prog 14 #[ptr gw, .agg (opC o)] w fun e w' => e = .returned (.bool true) ∧ Q w' := by
  subst hv
  have hlt := hw.lt
  have W0 : Wld (w.alloc (.cells (opC o) 54)) gw sv (.slice (some ⟨gv, 0, none⟩) n cap) sg sw := heap_of_old _ _ _ _ hlt hw
  have S0 : SRg (w.alloc (.cells (opC o) 54)) B gw w.heap.size n (.slice (some ⟨gv, 0, none⟩) n cap) o xs := ⟨W0.cells.2.1, heap_of_new _ _ _ rfl, World.ownsRow.alloc ho _⟩
  have F0 : Fr [] w (w.alloc (.cells (opC o) 54)) := (Fr.refl _ _).alloc _
  obtain ⟨c0, c1, c2, c3⟩ := W0.cells
  unfold opC at c0 c1 c2 c3
  have HS : Hid _ := S0
  have HF : Hid _ := F0
  have HT : Hid _ := hst
  clear S0 F0 hst ho W0
  have k1 : ¬ (o.kind < 10) := by omega
  have k2 : (o.kind == 10) = false := by rw [beq_eq_false_iff_ne]; omega
  have k3 : ¬ (o.kind < 20) := by omega
  have k4 : (o.kind == 20) = false := by rw [beq_eq_false_iff_ne]; omega
  unfold ptr
  rw [show Value.agg (opC o) = .agg #[.int .i64 o.kind, .int .i64 o.on, .int .i64 o.a, .bool o.yes, .string o.s, .string o.t, .string o.u, .string o.v, .int .i64 o.cs, .int .i64 o.ca, .int .i64 o.cm, .int .i64 o.ra, .int .i64 o.ri, .string o.rn, .string o.rb, .string o.rt] from rfl]
  go_enter Tryz.func14, Tryz.ntmps14
  go_wp2_with fail
  suffices H : ∀ W, SRg W B gw w.heap.size n (.slice (some ⟨gv, 0, none⟩) n cap) o xs → Fr [] w W → Code.wp Tryz.prog _ _ _ W from H _ HS.out HF.out
  clear HS HF c0 c1 c2 c3 hw
  intro W S1 F1
  refine wp_region_held_drew (S := fun W' => SRg W' B gw w.heap.size n (.slice (some ⟨gv, 0, none⟩) n cap) o xs) (by kernel_rfl) S1.drew (fun hHeld => ?_)
  refine tk 0 ?v1 ?y1 ?r1
  case y1 => (intro W' hW; go_simp; try with_reducible rfl)
  refine tk 1 ?v2 ?y2 ?r2
  case y2 => (intro W' hW; go_simp; try with_reducible rfl)
  refine tk 2 ?v3 ?y3 ?r3
  case y3 => (intro W' hW; go_simp; try with_reducible rfl)
  refine tk 3 ?v4 ?y4 ?r4
  case y4 => (intro W' hW; go_simp; try with_reducible rfl)
  refine tk 4 ?v5 ?y5 ?r5
  case y5 => (intro W' hW; have c1 := hW.c1; go_simp; try with_reducible rfl)
  refine tk 5 ?v6 ?y6 ?r6
  case y6 => (intro W' hW; go_simp; try with_reducible rfl)
  refine tk 6 ?v7 ?y7 ?r7
  case y7 => (intro W' hW; obtain ⟨z0, z1, z2, z3, z4, z5⟩ := cellsO hW.op; go_simp; try with_reducible rfl)
  refine tk 7 ?v8 ?y8 ?r8
  case y8 => (intro W' hW; go_simp; try with_reducible rfl)
  refine tk 8 ?v9 ?y9 ?r9
  case y9 => (intro W' hW; go_simp; try with_reducible rfl)
  refine tk 9 ?v10 ?y10 ?r10
  case y10 => (intro W' hW; go_simp; try with_reducible rfl)
  refine tk 10 ?v11 ?y11 ?r11
  case y11 => (intro W' hW; have c1 := hW.c1; go_simp; try with_reducible rfl)
  refine tk 11 ?v12 ?y12 ?r12
  case y12 => (intro W' hW; go_simp; try with_reducible rfl)
  refine tk 15 ?v13 ?y13 ?r13
  case y13 => (intro W' hW; obtain ⟨z0, z1, z2, z3, z4, z5, z6, z7, z8, z9, z10, z11, z12, z13, z14, z15⟩ := cellsF hW.op; go_simp; try with_reducible rfl)
  refine wpAnyH_ready (rs := [12]) (by kernel_rfl) (by simp) ?_
  refine AllReadyH.cons rfl (fun K hK => ?_) ?nil12
  case nil12 => exact AllReadyH.nil
  go_simp
  refine (lpick_any o.on n hon.1 hon.2 hpos hn2 _).mono ?_
  rintro e wa ⟨⟨q, hq, rfl⟩, hw⟩
  subst hw
  obtain ⟨gx, gr, e1, e2, hcall⟩ := HT.out q hq _ S1.drew F1.drew
  have E1 : Hid _ := e1
  have E2 : Hid _ := e2
  have HC : Hid _ := hcall
  clear e1 e2 hcall
  go_wp2_with fail
  refine hK.out _ _ hHeld (fun hHeld => ?_)
  clear hK K
  refine tk 13 ?v14 ?y14 ?r14
  case y14 => (intro W' hW; go_simp; try with_reducible rfl)
  refine tk 14 ?v15 ?y15 ?r15
  case y15 => (intro W' hW; have he0 := (World.ownsRow.cellAt hW.ow (q * 2) (by omega)).trans E1.out; have he1 := (World.ownsRow.cellAt hW.ow (q * 2 + 1) (by omega)).trans E2.out; go_simp; try with_reducible rfl)
  refine wpAnyH_ready (rs := [16]) (by kernel_rfl) (by simp) ?_
  refine AllReadyH.cons rfl (fun K hK => ?_) ?nil16
  case nil16 => exact AllReadyH.nil
  go_simp
  refine Calls.mono HC.out ?_
  rintro e wb ⟨rfl, hS2, hQ⟩
  go_wp2_with fail
  refine hK.out _ _ hS2 (fun hHeld => ?_)
  clear hK K
  refine tk 17 ?v16 ?y16 ?r16
  case y16 => (intro W' hW; go_simp; try with_reducible rfl)
  refine wpAnyH_done (by kernel_rfl) ?_ _
  go_wp2
  go_ret
  exact ⟨rfl, hQ⟩
end Go.Proofs.YtgalgjmhdbncbaaGreat
