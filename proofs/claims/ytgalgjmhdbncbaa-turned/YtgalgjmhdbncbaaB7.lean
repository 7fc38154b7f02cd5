import Derived.Test.YtgalgjmhdbncbaaB6
namespace Go.Proofs.Ytgalgjmhdbncbaa
open Go.RowKit
attribute [local go_sem ↓] Go.wp_at_zero Go.wp_at_succ
attribute [local go_sem ↓] cv_wrap
attribute [local go_sem] run_cv cvRes_row cvRes_z blk_new blk_at blk_old blk_drew

set_option maxRecDepth 100000 in
set_option maxHeartbeats 4000000 in
theorem turned_law (key nonce more plain : ByteArray) (alg which at' v : Int) (h1 : -9223372036854775808 ≤ alg) (h2 : alg ≤ 9223372036854775807) (h3 : -9223372036854775808 ≤ which) (h4 : which ≤ 9223372036854775807)
    (h5 : -9223372036854775808 ≤ at') (h6 : at' ≤ 9223372036854775807) (h7 : -9223372036854775808 ≤ v) (h8 : v ≤ 9223372036854775807) (hk : key.size ≤ maxLen) (hn : nonce.size ≤ 140737488351232) (hm : more.size ≤ 140737488351232) (hp : plain.size ≤ 140737488351232) (w : World) :
    Calls Try.prog 9 #[.string key, .int .i64 alg, .string nonce, .string more, .string plain, .int .i64 which, .int .i64 at', .int .i64 v] w fun e w' => e = .returned (.bool true) ∧ Below w.heap.size w w' := by
  have HK : Hid _ := hk
  have hm16 : ∀ w, (Instr.makeSlice 31 (.int .i64 16) (.int .i64 16)).run Try.prog w = .ok (.slice (some ⟨w.heap.size, 0, none⟩) 16 16) (w.alloc (.cells (arr 16 z8) 5)) := fun w => mk8 16 (by omega) w
  clear hk
  go_enter Try.func9, Try.ntmps9
  go_wp2_with fail
  refine (keyOf_any key alg h1 h2 HK.out _).mono ?_
  rintro e w1 ⟨⟨m0, hm0, rfl⟩, b1⟩
  have hK : KeyLen (str m0 (sf key)).size := by rw [str_size]; exact hm0
  generalize str m0 (sf key) = K at *
  have HK2 : Hid _ := hK
  clear hK hm0 HK
  go_wp2_with fail
  refine (upTo_more nonce _ 40 (by omega) (by omega) rfl _).mono ?_
  rintro e w2 ⟨⟨N, hN1, hN2, rfl⟩, hw⟩
  subst hw
  go_wp2_with fail
  refine (upTo_more more _ 200 (by omega) (by omega) rfl _).mono ?_
  rintro e w2 ⟨⟨M, hM1, hM2, rfl⟩, hw⟩
  subst hw
  go_wp2_with fail
  refine (upTo_more plain _ 200 (by omega) (by omega) rfl _).mono ?_
  rintro e w2 ⟨⟨A, hA1, hA2, rfl⟩, hw⟩
  subst hw
  clear hn hm hp
  go_wp2_with fail
  refine (seal_ok K N M A (key_max HK2.out) HK2.out ⟨hN1, hN2⟩ hM2 hA2 _).mono ?_
  rintro e w3 ⟨rfl, b3⟩
  have B3 := b1.trans (b3.mono b1.size)
  have z3 := B3.size
  clear b1 b3
  go_wp2_with fail
  refine (enc_zero K HK2.out _).mono ?_
  rintro e w4 ⟨rfl, b4⟩
  have B4 := (B3.alloc z3 (.cells (arr 16 z8) 5)).trans (b4.mono (by simp; omega))
  clear B3 b4 hm16 z3
  have z4 := B4.size
  have zS := sealT_size K N M A
  have zh := str_size 16 (hK K)
  have eB := sealT_body K N M A
  have eT := sealT_tag K N M A
  have zB := maskT_size K (firstF K N) A
  obtain ⟨Bd, hBd⟩ : ∃ Bd, maskT K (firstF K N) A = Bd := ⟨_, rfl⟩
  rw [hBd] at eB eT zB
  obtain ⟨Tg, hTg⟩ : ∃ Tg, str 16 (tagF K (firstF K N) M Bd) = Tg := ⟨_, rfl⟩
  have HTg : Hid _ := hTg
  rw [hTg] at eT
  have zT : Tg.size = 16 := by rw [← hTg, str_size]
  have e15 := cut_size (sealT K N M A) 0 15 (by omega)
  clear hBd hTg
  have d1 : (0 : Int) ≤ (A.size : Int) := by omega
  go_wp2_with fail
  refine (turned_any Tg at' v (by omega) (by omega) h5 h6 h7 h8 _).mono ?_
  rintro e w5 ⟨⟨p, d, hp, hd, rfl⟩, b5⟩
  have B5 := B4.trans (b5.mono z4)
  have zU := turnT_size Tg p d
  have HU : Hid (turnT Tg p d ≠ str 16 (tagF K (firstF K N) M Bd)) := by
    rw [HTg.out]
    exact turn_ne Tg p d hp hd
  clear B4 b5 z4 hp hd
  have z5 := B5.size
  generalize turnT Tg p d = U at *
  go_wp2_with fail
  refine (open_cat_no K N M Bd U HK2.out ⟨hN1, hN2⟩ hM2 (by omega) (by omega) HU.out _).mono ?_
  rintro e w6 ⟨rfl, b6⟩
  have B6 := B5.trans (b6.mono z5)
  have z6 := B6.size
  clear B5 b6 z5 HU
  go_wp2_with fail
  refine (open_size K N M _ (key_max HK2.out) HK2.out ⟨hN1, hN2⟩ hM2 (by omega) _).mono ?_
  rintro e w7 ⟨rfl, b7⟩
  have B7 := B6.trans (b7.mono z6)
  have z7 := B7.size
  clear B6 b7 z6
  by_cases hh : str 16 (hK K) = zs 16
  · have hz : ((str 16 (hK K)).toList == (zs 16).toList) = true := by rw [hh]; exact beq_self_eq_true _
    clear hh
    go_wp2
    go_ret
    exact ⟨rfl, B7⟩
  · have hz : ((str 16 (hK K)).toList == (zs 16).toList) = false := by
      rw [beq_eq_false_iff_ne]
      intro e
      rw [ByteArray.toList_eq, ByteArray.toList_eq] at e
      exact hh (WideShapes.bytes_inj e)
    have HZ : Hid (¬ ∀ j, j < 16 → hK K j = 0) := fun h => hh ((zero_iff K).2 h)
    clear hh
    go_wp2_with fail
    refine (pick_any which 3 h3 h4 (by omega) (by omega) _).mono ?_
    rintro e w8 ⟨⟨r, hr, rfl⟩, hw⟩
    subst hw
    rcases (by omega : r = 0 ∨ r = 1 ∨ r = 2) with rfl | rfl | rfl
    · go_wp2_with fail
      refine (turned_any Bd at' v (by omega) (by omega) h5 h6 h7 h8 _).mono ?_
      rintro e w9 ⟨⟨p, d, hp, hd, rfl⟩, b9⟩
      have B9 := B7.trans (b9.mono z7)
      have zU := turnT_size Bd p d
      have HU : Hid (Tg ≠ str 16 (tagF K (firstF K N) M (turnT Bd p d))) := by
        rw [← HTg.out]
        exact fun e => tag_body K _ M Bd p d hp hd HZ.out e.symm
      clear B7 b9 z7 hp hd
      have z9 := B9.size
      generalize turnT Bd p d = V at *
      go_wp2_with fail
      refine (open_cat_no K N M V Tg HK2.out ⟨hN1, hN2⟩ hM2 (by omega) zT HU.out _).mono ?_
      rintro e w10 ⟨rfl, b10⟩
      go_wp2
      go_ret
      exact ⟨rfl, B9.trans (b10.mono z9)⟩
    · go_wp2_with fail
      refine (turned_any N at' v (by omega) (by omega) h5 h6 h7 h8 _).mono ?_
      rintro e w9 ⟨⟨p, d, hp, hd, rfl⟩, b9⟩
      have B9 := B7.trans (b9.mono z7)
      have zU := turnT_size N p d
      have HU : Hid (Tg ≠ str 16 (tagF K (firstF K (turnT N p d)) M Bd)) := by
        rw [← HTg.out]
        exact fun e => tag_nonce K N M Bd p d hp hd HZ.out e.symm
      clear B7 b9 z7 hp hd
      have z9 := B9.size
      generalize turnT N p d = V at *
      go_wp2_with fail
      refine (open_cat_no K V M Bd Tg HK2.out ⟨by omega, by omega⟩ hM2 (by omega) zT HU.out _).mono ?_
      rintro e w10 ⟨rfl, b10⟩
      go_wp2
      go_ret
      exact ⟨rfl, B9.trans (b10.mono z9)⟩
    · go_wp2_with fail
      refine (turned_any M at' v (by omega) (by omega) h5 h6 h7 h8 _).mono ?_
      rintro e w9 ⟨⟨p, d, hp, hd, rfl⟩, b9⟩
      have B9 := B7.trans (b9.mono z7)
      have zU := turnT_size M p d
      have HU : Hid (Tg ≠ str 16 (tagF K (firstF K N) (turnT M p d) Bd)) := by
        rw [← HTg.out]
        exact fun e => tag_more K _ M Bd p d hp hd HZ.out e.symm
      clear B7 b9 z7 hp hd
      have z9 := B9.size
      generalize turnT M p d = V at *
      go_wp2_with fail
      refine (open_cat_no K N V Bd Tg HK2.out ⟨hN1, hN2⟩ (by omega) (by omega) zT HU.out _).mono ?_
      rintro e w10 ⟨rfl, b10⟩
      go_wp2
      go_ret
      exact ⟨rfl, B9.trans (b10.mono z9)⟩
end Go.Proofs.Ytgalgjmhdbncbaa
