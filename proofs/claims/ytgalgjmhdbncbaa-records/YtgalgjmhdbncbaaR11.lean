import Derived.Test.YtgalgjmhdbncbaaR10
namespace Go.Proofs.Ytgalgjmhdbncbaa
open Go.RowKit
attribute [local go_sem ↓] Go.wp_at_zero Go.wp_at_succ

theorem num_zero (n j : Nat) : sf (numT 0 n) j = 0 := by
  by_cases h : j < n
  · have : sf (numT 0 n) j = numF 0 n j := sf_str _ _ _ h
    rw [this]; unfold numF; simp
  · rw [sf_past _ _ (by rw [numT_size]; omega)]
theorem E_zero (key : ByteArray) (hk : KeyLen key.size) (w : World) : Calls Try.prog 53 #[.string key, .string (numT 0 16)] w fun e w' => e = .returned (.string (str 16 (hK key))) ∧ Below w.heap.size w w' := by
  have h := E_ref key (numT 0 16) hk (numT_size _ _) w
  have e : sf (numT 0 16) = fun _ => 0 := funext fun j => num_zero 16 j
  rw [e] at h
  exact h
theorem E_str (key : ByteArray) (hk : KeyLen key.size) (f : Nat → UInt8) (w : World) : Calls Try.prog 53 #[.string key, .string (str 16 f)] w fun e w' => e = .returned (.string (str 16 (aesF (sf key) f key.size))) ∧ Below w.heap.size w w' := by
  have h := E_ref key (str 16 f) hk (str_size _ _) w
  have e : str 16 (aesF (sf key) (sf (str 16 f)) key.size) = str 16 (aesF (sf key) f key.size) := (aes_str _ _ _ _).2 (str_congr fun j hj => sf_str 16 f j hj)
  rw [e] at h
  exact h
theorem number_int (v n : Nat) (x y : Int) (hx : x = v) (hy : y = n) (hv : v < 9223372036854775808) (hn : n ≤ 1000) (w : World) : Calls Try.prog 68 #[.int .i64 x, .int .i64 y] w fun e w' => e = .returned (.string (numT v n)) ∧ Below w.heap.size w w' := by
  subst hx hy
  exact number_ref v n hv hn w

set_option maxRecDepth 100000 in
set_option maxHeartbeats 1000000 in
theorem first_ref (key n : ByteArray) (hk : KeyLen key.size) (hn : n.size ≤ 300) (w : World) :
    Calls Try.prog 44 #[.string key, .string n] w fun e w' => e = .returned (.string (str 16 (firstF key n))) ∧ Below w.heap.size w w' := by
  have HK : Hid _ := hk
  clear hk
  by_cases h : n.size = 12
  · have hd : ((n.size : Int) == 12) = true := by rw [h]; rfl
    have hz := numT_size 1 4
    have HE : Hid (n ++ numT 1 4 = str 16 (firstF key n)) := by
      show _ = _
      unfold firstF
      rw [if_pos h, str_sf _ _ (by rw [ByteArray.size_append, h, hz])]
    clear h
    go_enter Try.func44, Try.ntmps44
    go_wp2_with fail
    refine (number_int 1 4 _ _ rfl rfl (by omega) (by omega) _).mono ?_
    rintro e w1 ⟨rfl, b1⟩
    go_wp2
    go_ret
    exact ⟨by rw [← HE.out]; rfl, b1⟩
  · have hd : ((n.size : Int) == 12) = false := by rw [beq_eq_false_iff_ne]; omega
    have z1 := padT_size n
    have z2 := up16_up n.size
    have z3 := numT_size 0 8
    have z4 := numT_size (8 * n.size) 8
    have zz := nonceT_size n
    have zm := up16_mod n.size
    have HE : Hid (hashN (hK key) (sf (nonceT n)) ((nonceT n).size / 16) = firstF key n) := by
      show _ = _
      unfold firstF
      rw [if_neg h]
    have HT : Hid (padT n ++ numT 0 8 ++ numT (8 * n.size) 8 = nonceT n) := rfl
    have z5 : (padT n ++ numT 0 8).size = up16 n.size + 8 := by rw [ByteArray.size_append, z1, z3]
    clear h
    go_enter Try.func44, Try.ntmps44
    go_wp2_with fail
    refine (number_int 0 16 _ _ rfl rfl (by omega) (by omega) _).mono ?_
    rintro e w1 ⟨rfl, b1⟩
    go_wp2_with fail
    refine (E_zero key HK.out _).mono ?_
    rintro e w2 ⟨rfl, b2⟩
    go_wp2_with fail
    refine (padded_ref n (by omega) _).mono ?_
    rintro e w3 ⟨rfl, hw⟩
    subst hw
    go_wp2_with fail
    refine (number_int 0 8 _ _ rfl rfl (by omega) (by omega) _).mono ?_
    rintro e w4 ⟨rfl, b4⟩
    go_wp2_with fail
    refine (number_int (8 * n.size) 8 _ _ (by omega) rfl (by omega) (by omega) _).mono ?_
    rintro e w5 ⟨rfl, b5⟩
    go_wp2_with fail
    rw [HT.out]
    refine (rhash_str (hK key) (nonceT n) (by unfold maxLen; omega) (by omega) _).mono ?_
    rintro e w6 ⟨rfl, b6⟩
    rw [HE.out]
    go_wp2
    go_ret
    have y1 := b1.size
    have y2 := b2.size
    have y4 := b4.size
    have y5 := b5.size
    exact ⟨rfl, (((b1.trans (b2.mono (by omega))).trans (b4.mono (by omega))).trans (b5.mono (by omega))).trans (b6.mono (by omega))⟩

set_option maxRecDepth 100000 in
set_option maxHeartbeats 1000000 in
theorem tag_ref (key m b : ByteArray) (J : Nat → UInt8) (hk : KeyLen key.size) (hm : m.size ≤ 300) (hb : b.size ≤ 300) (w : World) :
    Calls Try.prog 47 #[.string key, .string (str 16 J), .string m, .string b] w fun e w' => e = .returned (.string (str 16 (tagF key J m b))) ∧ Below w.heap.size w w' := by
  have HK : Hid _ := hk
  have z1 := padT_size m
  have z2 := up16_up m.size
  have z3 := padT_size b
  have z4 := up16_up b.size
  have z5 := numT_size (8 * m.size) 8
  have z6 := numT_size (8 * b.size) 8
  have HZ1 : Hid ((tagT m b).size ≤ maxLen) := by show _ ≤ _; rw [tagT_size]; unfold maxLen; omega
  have HZ2 : Hid ((tagT m b).size % 16 = 0) := by show _ = _; rw [tagT_size]; have := up16_mod m.size; have := up16_mod b.size; omega
  have z7 : (padT m ++ padT b).size = up16 m.size + up16 b.size := by rw [ByteArray.size_append, z1, z3]
  have z8 : (padT m ++ padT b ++ numT (8 * m.size) 8).size = up16 m.size + up16 b.size + 8 := by rw [ByteArray.size_append, z7, z5]
  have HT : Hid (padT m ++ padT b ++ numT (8 * m.size) 8 ++ numT (8 * b.size) 8 = tagT m b) := rfl
  clear hk
  go_enter Try.func47, Try.ntmps47
  go_wp2_with fail
  refine (number_int 0 16 _ _ rfl rfl (by omega) (by omega) _).mono ?_
  rintro e w1 ⟨rfl, b1⟩
  go_wp2_with fail
  refine (E_zero key HK.out _).mono ?_
  rintro e w2 ⟨rfl, b2⟩
  go_wp2_with fail
  refine (padded_ref m (by omega) _).mono ?_
  rintro e w3 ⟨rfl, hw⟩
  subst hw
  go_wp2_with fail
  refine (padded_ref b (by omega) _).mono ?_
  rintro e w3 ⟨rfl, hw⟩
  subst hw
  go_wp2_with fail
  refine (number_int (8 * m.size) 8 _ _ (by omega) rfl (by omega) (by omega) _).mono ?_
  rintro e w4 ⟨rfl, b4⟩
  go_wp2_with fail
  refine (number_int (8 * b.size) 8 _ _ (by omega) rfl (by omega) (by omega) _).mono ?_
  rintro e w5 ⟨rfl, b5⟩
  go_wp2_with fail
  rw [HT.out]
  refine (rhash_str (hK key) (tagT m b) HZ1.out HZ2.out _).mono ?_
  rintro e w6 ⟨rfl, b6⟩
  go_wp2_with fail
  refine (E_str key HK.out J _).mono ?_
  rintro e w7 ⟨rfl, b7⟩
  go_wp2_with fail
  refine (rxor_ref 16 _ _ (by omega) _).mono ?_
  rintro e w8 ⟨rfl, b8⟩
  go_wp2
  go_ret
  have y1 := b1.size
  have y2 := b2.size
  have y4 := b4.size
  have y5 := b5.size
  have y6 := b6.size
  have y7 := b7.size
  exact ⟨rfl, (((((b1.trans (b2.mono (by omega))).trans (b4.mono (by omega))).trans (b5.mono (by omega))).trans (b6.mono (by omega))).trans (b7.mono (by omega))).trans (b8.mono (by omega))⟩

/-! ### the stream -/
theorem str12 (J : Nat → UInt8) : (str 16 J).extract 0 12 = str 12 J := by
  apply bytes_ext
  · rw [cut_size _ _ _ (by rw [str_size]; omega), str_size]
  · intro j hj
    rw [cut_size _ _ _ (by rw [str_size]; omega)] at hj
    rw [sf_cut _ _ _ _ (by rw [str_size]; omega) (by omega), sf_str _ _ _ (by omega), sf_str _ _ _ (by omega), Nat.zero_add]
theorem ctr_cat (J : Nat → UInt8) (i C : Nat) (hC : C = (valF J 12 4 + i) % 4294967296) : str 12 J ++ numT C 4 = str 16 (ctrF J i) := by
  apply bytes_ext
  · rw [ByteArray.size_append, str_size, str_size, numT_size]
  · intro j hj
    rw [ByteArray.size_append, str_size, numT_size] at hj
    rw [sf_append, str_size, sf_str 16 _ j (by omega)]
    unfold ctrF
    by_cases h : j < 12
    · rw [if_pos h, if_pos h, sf_str _ _ _ h]
    · rw [if_neg h, if_neg h, hC]
      exact sf_str _ _ _ (by omega)
theorem stream_cat (key : ByteArray) (J : Nat → UInt8) (q : Nat) : str (16 * q) (streamF key J) ++ str 16 (aesF (sf key) (ctrF J (q + 1)) key.size) = str (16 * (q + 1)) (streamF key J) := by
  apply bytes_ext
  · rw [ByteArray.size_append, str_size, str_size, str_size]; omega
  · intro j hj
    rw [ByteArray.size_append, str_size, str_size] at hj
    rw [sf_append, str_size, sf_str (16 * (q + 1)) _ j (by omega)]
    by_cases h : j < 16 * q
    · rw [if_pos h, sf_str _ _ _ h]
    · rw [if_neg h, sf_str _ _ _ (by omega)]
      unfold streamF
      rw [show j / 16 = q by omega, show j % 16 = j - 16 * q by omega]
theorem str_cut' (n l : Nat) (f : Nat → UInt8) (h : l ≤ n) : (str n f).extract 0 l = str l f := by
  apply bytes_ext
  · rw [cut_size _ _ _ (by rw [str_size]; exact h), str_size]; omega
  · intro j hj
    rw [cut_size _ _ _ (by rw [str_size]; exact h)] at hj
    rw [sf_cut _ _ _ _ (by rw [str_size]; exact h) (by omega), sf_str _ _ _ (by omega), sf_str _ _ _ (by omega), Nat.zero_add]
theorem value_j (J : Nat → UInt8) (w : World) : Calls Try.prog 70 #[.string (str 16 J), .int .i64 12, .int .i64 4] w fun e w' => e = .returned (.int .i64 (valF J 12 4)) ∧ w' = w := by
  have h := value_ref (str 16 J) 12 4 (by rw [str_size]; omega) (by omega) (by omega) w
  rw [valF_congr (f := sf (str 16 J)) (g := J) (a := 12) 4 (fun j hj => sf_str _ _ _ (by omega))] at h
  exact h
set_option maxRecDepth 100000 in
set_option maxHeartbeats 1000000 in
theorem stream_ref (key : ByteArray) (J : Nat → UInt8) (n : Nat) (hk : KeyLen key.size) (hn : n ≤ 1000) (w : World) :
    Calls Try.prog 45 #[.string key, .string (str 16 J), .int .i64 n] w fun e w' => e = .returned (.string (str n (streamF key J))) ∧ Below w.heap.size w w' := by
  have HK : Hid _ := hk
  have hV := valF_lt J 12 4
  have h4 : (256 : Nat) ^ 4 = 4294967296 := rfl
  rw [h4] at hV
  have z16 := str_size 16 J
  have e12 := str12 J
  have z12 := str_size 12 J
  clear hk h4
  go_enter Try.func45, Try.ntmps45
  go_wp2_with fail
  refine (value_j J _).mono ?_
  rintro e w1 ⟨rfl, hw⟩
  subst hw
  generalize hv : valF J 12 4 = V at *
  have HV : Hid _ := hv
  clear hv
  go_wp2_with fail
  go_loopw [7, 8, 9] (fun s c _ wr => ∃ q L C : Nat, Hid (L = 16 * q) ∧ L < n + 16 ∧ Hid (C = (V + q) % 4294967296) ∧ C < 4294967296 ∧ s = .string (str L (streamF key J)) ∧ c = .int .i64 C ∧ Below w1.heap.size w1 wr) (fun s _ _ _ => n - strLen s)
  case atStart => exact ⟨0, 0, V, rfl, by omega, by show V = _; omega, hV, rfl, rfl, Below.refl _ _⟩
  case round =>
    obtain ⟨q, L, C, HL, hL, HC, hC, rfl, rfl, hB⟩ := hrel
    have zL := str_size L (streamF key J)
    by_cases hlt : L < n
    · obtain ⟨D, hD⟩ : ∃ D, (C + 1) % 4294967296 = D := ⟨_, rfl⟩
      have hDi : ((C : Int) + 1) % 4294967296 = (D : Int) := by omega
      have hD2 : D < 4294967296 := by omega
      have HD : Hid (D = (V + (q + 1)) % 4294967296) := by show D = _; rw [← hD, HC.out]; omega
      have zD := numT_size D 4
      have HT : Hid (str 12 J ++ numT D 4 = str 16 (ctrF J (q + 1))) := ctr_cat J (q + 1) D (by rw [HV.out]; exact HD.out)
      have HN : Hid (str L (streamF key J) ++ str 16 (aesF (sf key) (ctrF J (q + 1)) key.size) = str (L + 16) (streamF key J)) := by
        show _ = _
        rw [HL.out]
        exact stream_cat key J q
      have zE := str_size 16 (aesF (sf key) (ctrF J (q + 1)) key.size)
      have HL2 : Hid (L + 16 = 16 * (q + 1)) := by show _ = _; rw [HL.out]; omega
      clear hD HL HC
      go_wp2_with fail
      go_region_with (first
        | (go_at_call 68; refine (number_int D 4 _ _ rfl rfl (by omega) (by omega) _).mono ?_; rintro e w2 ⟨rfl, b2⟩)
        | (go_at_call 53; rw [HT.out]; refine (E_str key HK.out (ctrF J (q + 1)) _).mono ?_; rintro e w3 ⟨rfl, b3⟩))
      all_goals
        have B3 := (hB.drew.trans (b2.mono hB.size)).trans (b3.mono (Nat.le_trans hB.size b2.size))
        clear b2 b3
        go_wp2
        rw [HN.out]
        go_roundw
        case rel => exact ⟨q + 1, L + 16, D, HL2, by omega, HD, hD2, rfl, rfl, B3⟩
        case measure => simp only [strLen]; rw [str_size]; show n - (L + 16) < n - strLen (.string (str L (streamF key J))); simp only [strLen]; rw [str_size]; omega
    · have HE : Hid _ := str_cut' L n (streamF key J) (by omega)
      have hni : (n : Int) ≤ (L : Int) := by omega
      go_wp2
      go_ret
      exact ⟨by rw [← HE.out]; rfl, hB⟩
end Go.Proofs.Ytgalgjmhdbncbaa
