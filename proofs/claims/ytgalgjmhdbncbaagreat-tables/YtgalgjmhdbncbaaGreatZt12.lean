import Derived.Test.YtgalgjmhdbncbaaGreatZt11
import Derived.Test.YtgalgjmhdbncbaaGreatZt00
import Derived.Test.YtgalgjmhdbncbaaGreatZt09
import Derived.Deep.RegionHeld
import Derived.Test.YtgalgjmhdbncbaaGreatZt06
import Derived.ChangeKeysEq
namespace Go.Proofs.YtgalgjmhdbncbaaGreat
open Go.RowKit
attribute [local go_sem ↓] Go.wp_at_zero Go.wp_at_succ

theorem num_zero (n j : Nat) : sf (numT 0 n) j = 0 := by
  by_cases h : j < n
  · have : sf (numT 0 n) j = numF 0 n j := sf_str _ _ _ h
    rw [this]; unfold numF; simp
  · rw [sf_past _ _ (by rw [numT_size]; omega)]
theorem E_zero (key : ByteArray) (hk : KeyLen key.size) (w : World) : Calls Tryz.prog 123 #[.string key, .string (numT 0 16)] w fun e w' => e = .returned (.string (str 16 (hK key))) ∧ Below w.heap.size w w' := by
  have h := E_ref key (numT 0 16) hk (numT_size _ _) w
  have e : sf (numT 0 16) = fun _ => 0 := funext fun j => num_zero 16 j
  rw [e] at h
  exact h
theorem E_str (key : ByteArray) (hk : KeyLen key.size) (f : Nat → UInt8) (w : World) : Calls Tryz.prog 123 #[.string key, .string (str 16 f)] w fun e w' => e = .returned (.string (str 16 (aesF (sf key) f key.size))) ∧ Below w.heap.size w w' := by
  have h := E_ref key (str 16 f) hk (str_size _ _) w
  have e : str 16 (aesF (sf key) (sf (str 16 f)) key.size) = str 16 (aesF (sf key) f key.size) := (aes_str _ _ _ _).2 (str_congr fun j hj => sf_str 16 f j hj)
  rw [e] at h
  exact h
theorem number_int (v n : Nat) (x y : Int) (hx : x = v) (hy : y = n) (hv : v < 9223372036854775808) (hn : n ≤ 1000) (w : World) : Calls Tryz.prog 108 #[.int .i64 x, .int .i64 y] w fun e w' => e = .returned (.string (numT v n)) ∧ Below w.heap.size w w' := by
  subst hx hy
  exact number_ref v n hv hn w

set_option maxRecDepth 100000 in
set_option maxHeartbeats 1000000 in
theorem first_ref (key n : ByteArray) (hk : KeyLen key.size) (hn : n.size ≤ 300) (w : World) :
    Calls Tryz.prog 127 #[.string key, .string n] w fun e w' => e = .returned (.string (str 16 (firstF key n))) ∧ Below w.heap.size w w' := by
  have HK : Hid _ := hk
  clear hk
  by_cases h : n.size = 12
  · have hd : ((n.size : Int) == 12) = true := by rw [h]; rfl
    have hz := numT_size 1 4
    have HE : Hid (n ++ numT 1 4 = str 16 (firstF key n)) := by
      show _ = _
      unfold firstF
      rw [if_pos h, str_sf _ _ (by rw [ByteArray.size_append, h, hz])]
    clear h
    go_enter Tryz.func127, Tryz.ntmps127
    go_wp2_with fail
    refine (number_int 1 4 _ _ rfl rfl (by omega) (by omega) _).mono ?_
    rintro e w1 ⟨rfl, b1⟩
    go_wp2
    go_ret
    exact ⟨by rw [← HE.out]; rfl, b1⟩
  · have hd : ((n.size : Int) == 12) = false := by rw [beq_eq_false_iff_ne]; omega
    have z1 := padT_size n
    have z2 := up16_up n.size
    have z3 := numT_size 0 8
    have z4 := numT_size (8 * n.size) 8
    have zz := nonceT_size n
    have zm := up16_mod n.size
    have HE : Hid (hashN (hK key) (sf (nonceT n)) ((nonceT n).size / 16) = firstF key n) := by
      show _ = _
      unfold firstF
      rw [if_neg h]
    have HT : Hid (padT n ++ numT 0 8 ++ numT (8 * n.size) 8 = nonceT n) := rfl
    have z5 : (padT n ++ numT 0 8).size = up16 n.size + 8 := by rw [ByteArray.size_append, z1, z3]
    clear h
    go_enter Tryz.func127, Tryz.ntmps127
    go_wp2_with fail
    refine (number_int 0 16 _ _ rfl rfl (by omega) (by omega) _).mono ?_
    rintro e w1 ⟨rfl, b1⟩
    go_wp2_with fail
    refine (E_zero key HK.out _).mono ?_
    rintro e w2 ⟨rfl, b2⟩
    go_wp2_with fail
    refine (padded_ref n (by omega) _).mono ?_
    rintro e w3 ⟨rfl, hw⟩
    subst hw
    go_wp2_with fail
    refine (number_int 0 8 _ _ rfl rfl (by omega) (by omega) _).mono ?_
    rintro e w4 ⟨rfl, b4⟩
    go_wp2_with fail
    refine (number_int (8 * n.size) 8 _ _ (by omega) rfl (by omega) (by omega) _).mono ?_
    rintro e w5 ⟨rfl, b5⟩
    go_wp2_with fail
    rw [HT.out]
    refine (rhash_str (hK key) (nonceT n) (by unfold maxLen; omega) (by omega) _).mono ?_
    rintro e w6 ⟨rfl, b6⟩
    rw [HE.out]
    go_wp2
    go_ret
    have y1 := b1.size
    have y2 := b2.size
    have y4 := b4.size
    have y5 := b5.size
    exact ⟨rfl, (((b1.trans (b2.mono (by omega))).trans (b4.mono (by omega))).trans (b5.mono (by omega))).trans (b6.mono (by omega))⟩

set_option maxRecDepth 100000 in
set_option maxHeartbeats 1000000 in
theorem tag_ref (key m b : ByteArray) (J : Nat → UInt8) (hk : KeyLen key.size) (hm : m.size ≤ 300) (hb : b.size ≤ 300) (w : World) :
    Calls Tryz.prog 130 #[.string key, .string (str 16 J), .string m, .string b] w fun e w' => e = .returned (.string (str 16 (tagF key J m b))) ∧ Below w.heap.size w w' := by
  have HK : Hid _ := hk
  have z1 := padT_size m
  have z2 := up16_up m.size
  have z3 := padT_size b
  have z4 := up16_up b.size
  have z5 := numT_size (8 * m.size) 8
  have z6 := numT_size (8 * b.size) 8
  have HZ1 : Hid ((tagT m b).size ≤ maxLen) := by show _ ≤ _; rw [tagT_size]; unfold maxLen; omega
  have HZ2 : Hid ((tagT m b).size % 16 = 0) := by show _ = _; rw [tagT_size]; have := up16_mod m.size; have := up16_mod b.size; omega
  have z7 : (padT m ++ padT b).size = up16 m.size + up16 b.size := by rw [ByteArray.size_append, z1, z3]
  have z8 : (padT m ++ padT b ++ numT (8 * m.size) 8).size = up16 m.size + up16 b.size + 8 := by rw [ByteArray.size_append, z7, z5]
  have HT : Hid (padT m ++ padT b ++ numT (8 * m.size) 8 ++ numT (8 * b.size) 8 = tagT m b) := rfl
  clear hk
  go_enter Tryz.func130, Tryz.ntmps130
  go_wp2_with fail
  refine (number_int 0 16 _ _ rfl rfl (by omega) (by omega) _).mono ?_
  rintro e w1 ⟨rfl, b1⟩
  go_wp2_with fail
  refine (E_zero key HK.out _).mono ?_
  rintro e w2 ⟨rfl, b2⟩
  go_wp2_with fail
  refine (padded_ref m (by omega) _).mono ?_
  rintro e w3 ⟨rfl, hw⟩
  subst hw
  go_wp2_with fail
  refine (padded_ref b (by omega) _).mono ?_
  rintro e w3 ⟨rfl, hw⟩
  subst hw
  go_wp2_with fail
  refine (number_int (8 * m.size) 8 _ _ (by omega) rfl (by omega) (by omega) _).mono ?_
  rintro e w4 ⟨rfl, b4⟩
  go_wp2_with fail
  refine (number_int (8 * b.size) 8 _ _ (by omega) rfl (by omega) (by omega) _).mono ?_
  rintro e w5 ⟨rfl, b5⟩
  go_wp2_with fail
  rw [HT.out]
  refine (rhash_str (hK key) (tagT m b) HZ1.out HZ2.out _).mono ?_
  rintro e w6 ⟨rfl, b6⟩
  go_wp2_with fail
  refine (E_str key HK.out J _).mono ?_
  rintro e w7 ⟨rfl, b7⟩
  go_wp2_with fail
  refine (rxor_ref 16 _ _ (by omega) _).mono ?_
  rintro e w8 ⟨rfl, b8⟩
  go_wp2
  go_ret
  have y1 := b1.size
  have y2 := b2.size
  have y4 := b4.size
  have y5 := b5.size
  have y6 := b6.size
  have y7 := b7.size
  exact ⟨rfl, (((((b1.trans (b2.mono (by omega))).trans (b4.mono (by omega))).trans (b5.mono (by omega))).trans (b6.mono (by omega))).trans (b7.mono (by omega))).trans (b8.mono (by omega))⟩

theorem str12 (J : Nat → UInt8) : (str 16 J).extract 0 12 = str 12 J := by
  apply bytes_ext
  · rw [cut_size _ _ _ (by rw [str_size]; omega), str_size]
  · intro j hj
    rw [cut_size _ _ _ (by rw [str_size]; omega)] at hj
    rw [sf_cut _ _ _ _ (by rw [str_size]; omega) (by omega), sf_str _ _ _ (by omega), sf_str _ _ _ (by omega), Nat.zero_add]
theorem ctr_cat (J : Nat → UInt8) (i C : Nat) (hC : C = (valF J 12 4 + i) % 4294967296) : str 12 J ++ numT C 4 = str 16 (ctrF J i) := by
  apply bytes_ext
  · rw [ByteArray.size_append, str_size, str_size, numT_size]
  · intro j hj
    rw [ByteArray.size_append, str_size, numT_size] at hj
    rw [sf_append, str_size, sf_str 16 _ j (by omega)]
    unfold ctrF
    by_cases h : j < 12
    · rw [if_pos h, if_pos h, sf_str _ _ _ h]
    · rw [if_neg h, if_neg h, hC]
      exact sf_str _ _ _ (by omega)
theorem stream_cat (key : ByteArray) (J : Nat → UInt8) (q : Nat) : str (16 * q) (streamF key J) ++ str 16 (aesF (sf key) (ctrF J (q + 1)) key.size) = str (16 * (q + 1)) (streamF key J) := by
  apply bytes_ext
  · rw [ByteArray.size_append, str_size, str_size, str_size]; omega
  · intro j hj
    rw [ByteArray.size_append, str_size, str_size] at hj
    rw [sf_append, str_size, sf_str (16 * (q + 1)) _ j (by omega)]
    by_cases h : j < 16 * q
    · rw [if_pos h, sf_str _ _ _ h]
    · rw [if_neg h, sf_str _ _ _ (by omega)]
      unfold streamF
      rw [show j / 16 = q by omega, show j % 16 = j - 16 * q by omega]
theorem str_cut' (n l : Nat) (f : Nat → UInt8) (h : l ≤ n) : (str n f).extract 0 l = str l f := by
  apply bytes_ext
  · rw [cut_size _ _ _ (by rw [str_size]; exact h), str_size]; omega
  · intro j hj
    rw [cut_size _ _ _ (by rw [str_size]; exact h)] at hj
    rw [sf_cut _ _ _ _ (by rw [str_size]; exact h) (by omega), sf_str _ _ _ (by omega), sf_str _ _ _ (by omega), Nat.zero_add]
theorem value_j (J : Nat → UInt8) (w : World) : Calls Tryz.prog 131 #[.string (str 16 J), .int .i64 12, .int .i64 4] w fun e w' => e = .returned (.int .i64 (valF J 12 4)) ∧ w' = w := by
  have h := value_ref (str 16 J) 12 4 (by rw [str_size]; omega) (by omega) (by omega) w
  rw [valF_congr (f := sf (str 16 J)) (g := J) (a := 12) 4 (fun j hj => sf_str _ _ _ (by omega))] at h
  exact h
set_option maxRecDepth 100000 in
set_option maxHeartbeats 1000000 in
theorem stream_ref (key : ByteArray) (J : Nat → UInt8) (n : Nat) (hk : KeyLen key.size) (hn : n ≤ 1000) (w : World) :
    Calls Tryz.prog 128 #[.string key, .string (str 16 J), .int .i64 n] w fun e w' => e = .returned (.string (str n (streamF key J))) ∧ Below w.heap.size w w' := by
  have HK : Hid _ := hk
  have hV := valF_lt J 12 4
  have h4 : (256 : Nat) ^ 4 = 4294967296 := rfl
  rw [h4] at hV
  have z16 := str_size 16 J
  have e12 := str12 J
  have z12 := str_size 12 J
  clear hk h4
  go_enter Tryz.func128, Tryz.ntmps128
  go_wp2_with fail
  refine (value_j J _).mono ?_
  rintro e w1 ⟨rfl, hw⟩
  subst hw
  generalize hv : valF J 12 4 = V at *
  have HV : Hid _ := hv
  clear hv
  go_wp2_with fail
  go_loopw [7, 8, 9] (fun s c _ wr => ∃ q L C : Nat, Hid (L = 16 * q) ∧ L < n + 16 ∧ Hid (C = (V + q) % 4294967296) ∧ C < 4294967296 ∧ s = .string (str L (streamF key J)) ∧ c = .int .i64 C ∧ Below w1.heap.size w1 wr) (fun s _ _ _ => n - strLen s)
  case atStart => exact ⟨0, 0, V, rfl, by omega, by show V = _; omega, hV, rfl, rfl, Below.refl _ _⟩
  case round =>
    obtain ⟨q, L, C, HL, hL, HC, hC, rfl, rfl, hB⟩ := hrel
    have zL := str_size L (streamF key J)
    by_cases hlt : L < n
    · obtain ⟨D, hD⟩ : ∃ D, (C + 1) % 4294967296 = D := ⟨_, rfl⟩
      have hDi : ((C : Int) + 1) % 4294967296 = (D : Int) := by omega
      have hD2 : D < 4294967296 := by omega
      have HD : Hid (D = (V + (q + 1)) % 4294967296) := by show D = _; rw [← hD, HC.out]; omega
      have zD := numT_size D 4
      have HT : Hid (str 12 J ++ numT D 4 = str 16 (ctrF J (q + 1))) := ctr_cat J (q + 1) D (by rw [HV.out]; exact HD.out)
      have HN : Hid (str L (streamF key J) ++ str 16 (aesF (sf key) (ctrF J (q + 1)) key.size) = str (L + 16) (streamF key J)) := by
        show _ = _
        rw [HL.out]
        exact stream_cat key J q
      have zE := str_size 16 (aesF (sf key) (ctrF J (q + 1)) key.size)
      have HL2 : Hid (L + 16 = 16 * (q + 1)) := by show _ = _; rw [HL.out]; omega
      clear hD HL HC
      go_wp2_with fail
      go_region_with (first
        | (go_at_call 108; refine (number_int D 4 _ _ rfl rfl (by omega) (by omega) _).mono ?_; rintro e w2 ⟨rfl, b2⟩)
        | (go_at_call 123; rw [HT.out]; refine (E_str key HK.out (ctrF J (q + 1)) _).mono ?_; rintro e w3 ⟨rfl, b3⟩))
      all_goals
        have B3 := (hB.drew.trans (b2.mono hB.size)).trans (b3.mono (Nat.le_trans hB.size b2.size))
        clear b2 b3
        go_wp2
        rw [HN.out]
        go_roundw
        case rel => exact ⟨q + 1, L + 16, D, HL2, by omega, HD, hD2, rfl, rfl, B3⟩
        case measure => simp only [strLen]; rw [str_size]; show n - (L + 16) < n - strLen (.string (str L (streamF key J))); simp only [strLen]; rw [str_size]; omega
    · have HE : Hid _ := str_cut' L n (streamF key J) (by omega)
      have hni : (n : Int) ≤ (L : Int) := by omega
      go_wp2
      go_ret
      exact ⟨by rw [← HE.out]; rfl, hB⟩
end Go.Proofs.YtgalgjmhdbncbaaGreat
namespace Go.Proofs.YtgalgjmhdbncbaaGreat
open Go.RowKit
attribute [local go_sem ↓] Go.wp_at_zero Go.wp_at_succ

structure SR (w0 w : World) (n0 : Nat) (a i : Int) (n b t : ByteArray) : Prop where
  rc : w.heap[n0]? = some (.cells (recA a i n b t) 52 (0, 0))
  l : n0 < w.heap.size
  bl : Below n0 w0 w
theorem SR.keep {w0 w w1 : World} {n0 : Nat} {a i : Int} {n b t : ByteArray} (h : SR w0 w n0 a i n b t) (hb : Below w.heap.size w w1) : SR w0 w1 n0 a i n b t :=
  ⟨by rw [hb.block n0 h.l]; exact h.rc, Nat.lt_of_lt_of_le h.l hb.size, h.bl.trans (hb.mono (Nat.le_of_lt h.l))⟩
theorem SR.drew {w0 w : World} {n0 : Nat} {a i : Int} {n b t : ByteArray} (h : SR w0 w n0 a i n b t) : SR w0 w.drew n0 a i n b t := ⟨h.rc, h.l, h.bl.drew⟩
theorem SR.cell {w0 w : World} {n0 : Nat} {a i : Int} {n b t : ByteArray} (h : SR w0 w n0 a i n b t) :
    w.cell? ⟨n0, 0, none⟩ = some (.int .i64 a) ∧ w.cell? ⟨n0, 1, none⟩ = some (.int .i64 i) ∧ w.cell? ⟨n0, 2, none⟩ = some (.string n) ∧ w.cell? ⟨n0, 3, none⟩ = some (.string b) ∧ w.cell? ⟨n0, 4, none⟩ = some (.string t) := by
  refine ⟨?_, ?_, ?_, ?_, ?_⟩
  · rw [cell_of_row _ _ 0 _ _ _ h.rc]; rfl
  · rw [cell_of_row _ _ 1 _ _ _ h.rc]; rfl
  · rw [cell_of_row _ _ 2 _ _ _ h.rc]; rfl
  · rw [cell_of_row _ _ 3 _ _ _ h.rc]; rfl
  · rw [cell_of_row _ _ 4 _ _ _ h.rc]; rfl
def markC : ByteArray := ⟨#[99, 103]⟩
set_option maxRecDepth 100000 in
set_option maxHeartbeats 4000000 in
theorem refEncode_yes (A I : Nat) (n b t : ByteArray) (hA1 : 1 ≤ A) (hA3 : A ≤ 3) (hI : I ≤ 65535) (hn : n.size = 12) (hb : b.size ≤ 200) (ht : t.size = 16) (w : World) :
    Calls Tryz.prog 98 #[recV A I n b t] w fun e w' => e = .returned (.tuple #[.string (encT A I n b t), .int .i64 0]) ∧ Below w.heap.size w w' := by
  have HE : Hid (markC ++ numT 1 1 ++ numT A 1 ++ numT I 2 ++ n ++ numT b.size 2 ++ b ++ t = encT A I n b t) := encT_cat A I n b t hn ht
  have c3 : ((n.size : Int) != 12) = false := by rw [hn]; rfl
  have c5 : ((t.size : Int) != 16) = false := by rw [ht]; rfl
  have hn12 : n.size ≤ 12 := by omega
  have ht16 : t.size ≤ 16 := by omega
  have z1 := numT_size 1 1
  have z2 := numT_size A 1
  have z3 := numT_size I 2
  have z4 := numT_size b.size 2
  clear hn ht
  unfold recV
  go_enter Tryz.func98, Tryz.ntmps98
  go_wp2_with fail
  have S0 : SR w (w.alloc (.cells (recA A I n b t) 52)) w.heap.size A I n b t := ⟨heap_of_new _ _ _ rfl, by simp, (Below.refl _ w).alloc (Nat.le_refl _) _⟩
  refine wp_region_held_drew (S := fun W => SR w W w.heap.size A I n b t) (by kernel_rfl) S0.drew (fun hHeld => ?_)
  refine tk 2 ?v1 ?y1 ?r1
  case y1 => (intro W hW; go_simp; try with_reducible rfl)
  refine tk 3 ?v2 ?y2 ?r2
  case y2 => (intro W hW; obtain ⟨d0, d1, d2, d3, d4⟩ := SR.cell hW; go_simp; try with_reducible rfl)
  refine tk 6 ?v3 ?y3 ?r3
  case y3 => (intro W hW; go_simp; try with_reducible rfl)
  refine tk 7 ?v4 ?y4 ?r4
  case y4 => (intro W hW; obtain ⟨d0, d1, d2, d3, d4⟩ := SR.cell hW; go_simp; try with_reducible rfl)
  refine tk 10 ?v5 ?y5 ?r5
  case y5 => (intro W hW; go_simp; try with_reducible rfl)
  refine tk 11 ?v6 ?y6 ?r6
  case y6 => (intro W hW; obtain ⟨d0, d1, d2, d3, d4⟩ := SR.cell hW; go_simp; try with_reducible rfl)
  refine tk 13 ?v7 ?y7 ?r7
  case y7 => (intro W hW; go_simp; try with_reducible rfl)
  refine tk 14 ?v8 ?y8 ?r8
  case y8 => (intro W hW; obtain ⟨d0, d1, d2, d3, d4⟩ := SR.cell hW; go_simp; try with_reducible rfl)
  refine tk 15 ?v9 ?y9 ?r9
  case y9 => (intro W hW; go_simp; try with_reducible rfl)
  refine tk 18 ?v10 ?y10 ?r10
  case y10 => (intro W hW; go_simp; try with_reducible rfl)
  refine tk 19 ?v11 ?y11 ?r11
  case y11 => (intro W hW; obtain ⟨d0, d1, d2, d3, d4⟩ := SR.cell hW; go_simp; try with_reducible rfl)
  refine tk 21 ?v12 ?y12 ?r12
  case y12 => (intro W hW; go_simp; try with_reducible rfl)
  refine tk 22 ?v13 ?y13 ?r13
  case y13 => (intro W hW; obtain ⟨d0, d1, d2, d3, d4⟩ := SR.cell hW; go_simp; try with_reducible rfl)
  refine wpAnyH_ready (rs := [0]) (by kernel_rfl) (by simp) ?_
  refine AllReadyH.cons rfl (fun K hK => ?_) AllReadyH.nil
  go_simp
  refine (number_int 1 1 _ _ rfl rfl (by omega) (by omega) _).mono ?_
  rintro e wa ⟨rfl, ba⟩
  have S2 := SR.keep hHeld ba
  clear ba hHeld
  go_wp2_with fail
  refine hK.out _ _ S2 (fun hHeld => ?_)
  clear hK K
  clear S2
  refine tk 1 ?v14 ?y14 ?r14
  case y14 => (intro W hW; go_simp; first | (with_reducible rfl) | rw [if_neg (by omega)])
  refine wpAnyH_ready (rs := [4]) (by kernel_rfl) (by simp) ?_
  refine AllReadyH.cons rfl (fun K hK => ?_) AllReadyH.nil
  go_simp
  refine (number_int A 1 _ _ rfl rfl (by omega) (by omega) _).mono ?_
  rintro e wa ⟨rfl, ba⟩
  have S2 := SR.keep hHeld ba
  clear ba hHeld
  go_wp2_with fail
  refine hK.out _ _ S2 (fun hHeld => ?_)
  clear hK K
  clear S2
  refine tk 5 ?v15 ?y15 ?r15
  case y15 => (intro W hW; go_simp; first | (with_reducible rfl) | rw [if_neg (by omega)])
  refine wpAnyH_ready (rs := [8]) (by kernel_rfl) (by simp) ?_
  refine AllReadyH.cons rfl (fun K hK => ?_) AllReadyH.nil
  go_simp
  refine (number_int I 2 _ _ rfl rfl (by omega) (by omega) _).mono ?_
  rintro e wa ⟨rfl, ba⟩
  have S2 := SR.keep hHeld ba
  clear ba hHeld
  go_wp2_with fail
  refine hK.out _ _ S2 (fun hHeld => ?_)
  clear hK K
  clear S2
  refine tk 9 ?v16 ?y16 ?r16
  case y16 => (intro W hW; go_simp; first | (with_reducible rfl) | rw [if_neg (by omega)])
  refine tk 12 ?v17 ?y17 ?r17
  case y17 => (intro W hW; go_simp; first | (with_reducible rfl) | rw [if_neg (by omega)])
  refine wpAnyH_ready (rs := [16]) (by kernel_rfl) (by simp) ?_
  refine AllReadyH.cons rfl (fun K hK => ?_) AllReadyH.nil
  go_simp
  refine (number_int b.size 2 _ _ rfl rfl (by omega) (by omega) _).mono ?_
  rintro e wa ⟨rfl, ba⟩
  have S2 := SR.keep hHeld ba
  clear ba hHeld
  go_wp2_with fail
  refine hK.out _ _ S2 (fun hHeld => ?_)
  clear hK K
  clear S2
  refine tk 17 ?v18 ?y18 ?r18
  case y18 => (intro W hW; go_simp; first | (with_reducible rfl) | rw [if_neg (by omega)])
  refine tk 20 ?v19 ?y19 ?r19
  case y19 => (intro W hW; go_simp; first | (with_reducible rfl) | rw [if_neg (by omega)])
  refine tk 23 ?v20 ?y20 ?r20
  case y20 => (intro W hW; go_simp; first | (with_reducible rfl) | rw [if_neg (by omega)])
  refine tk 24 ?v21 ?y21 ?r21
  case y21 => (intro W hW; go_simp; try with_reducible rfl)
  refine tk 25 ?v22 ?y22 ?r22
  case y22 => (intro W hW; go_simp; try with_reducible rfl)
  refine wpAnyH_done (by kernel_rfl) ?_ _
  go_wp2
  go_ret2
  exact ⟨by rw [← HE.out]; rfl, SR.bl hHeld⟩
end Go.Proofs.YtgalgjmhdbncbaaGreat
namespace Go.Proofs.YtgalgjmhdbncbaaGreat
open Go.RowKit

theorem part_i (f : Nat → UInt8) (w : World) : ∀ i, i < 16 → (part 5 (arr 16 (by8 f)) (i * Tryz.prog.cellsOf 5)).run Tryz.prog w = .ok (by8 f i) w
  | 0, _ => by kernel_rfl
  | 1, _ => by kernel_rfl
  | 2, _ => by kernel_rfl
  | 3, _ => by kernel_rfl
  | 4, _ => by kernel_rfl
  | 5, _ => by kernel_rfl
  | 6, _ => by kernel_rfl
  | 7, _ => by kernel_rfl
  | 8, _ => by kernel_rfl
  | 9, _ => by kernel_rfl
  | 10, _ => by kernel_rfl
  | 11, _ => by kernel_rfl
  | 12, _ => by kernel_rfl
  | 13, _ => by kernel_rfl
  | 14, _ => by kernel_rfl
  | 15, _ => by kernel_rfl
  | n + 16, h => absurd h (by omega)
theorem items_arr (f g : Nat → UInt8) (d : Nat) (w : World) : ∀ is : List Nat, (∀ i, i ∈ is → i < 16) →
    (Op.eqItems (d + 1) 5 (Tryz.prog.cellsOf 5) (arr 16 (by8 f)) (arr 16 (by8 g)) is).run Tryz.prog w = .ok (is.all fun i => f i == g i) w
  | [], _ => by simp [Op.eqItems]
  | i :: is, h => by
    have e := run_equalIn_int (P := Tryz.prog) (w := w) d 5 .u8 .u8 ((f i).toNat : Int) ((g i).toNat : Int) Tryz.underlying5
    have e2 : (((f i).toNat : Int) == ((g i).toNat : Int)) = (f i == g i) := by
      rw [Bool.eq_iff_iff, beq_iff_eq, beq_iff_eq]
      constructor
      · intro h; exact UInt8.toNat_inj.1 (by omega)
      · intro h; rw [h]
    rw [e2] at e
    have ih := items_arr f g d w is (fun k hk => h k (List.mem_cons_of_mem _ hk))
    simp only [Op.eqItems, Sem.run_bind, part_i f w i (h i (List.mem_cons_self)), part_i g w i (h i (List.mem_cons_self)), Result.andThen_ok, by8, e, List.all_cons]
    by_cases hb : f i = g i
    · rw [hb]
      simp only [beq_self_eq_true, Bool.not_true, Bool.false_eq_true, if_false, Bool.true_and]
      exact ih
    · rw [beq_eq_false_iff_ne.2 hb]
      simp
def same16 (f g : Nat → UInt8) : Bool := (List.range 16).all fun i => f i == g i
theorem same16_iff (f g : Nat → UInt8) : same16 f g = true ↔ str 16 f = str 16 g := by
  unfold same16
  rw [List.all_eq_true]
  constructor
  · intro h
    exact str_congr fun j hj => by simpa using h j (by simpa using hj)
  · intro h i hi
    have e := congrArg (fun s => sf s i) h
    have hi' : i < 16 := by simpa using hi
    rw [sf_str _ _ _ hi', sf_str _ _ _ hi'] at e
    simpa using e
theorem run_eq53 (f g : Nat → UInt8) (w : World) : Sem.run Tryz.prog (Op.equalIn 10000 145 (.agg (arr 16 (by8 f))) (.agg (arr 16 (by8 g)))) w = .ok (same16 f g) w := by
  obtain ⟨i, hi⟩ : ∃ i, Tryz.prog.info? 5 = some i := by
    have h := info5
    rw [Option.map_eq_some_iff] at h
    obtain ⟨i, hi, _⟩ := h
    exact ⟨i, hi⟩
  have h := run_equalIn_array (P := Tryz.prog) w 9999 (arr 16 (by8 f)) (arr 16 (by8 g)) Tryz.underlying145 hi
  refine h.trans ?_
  exact items_arr f g 9998 w (List.range 16) (fun i hi => by simpa using hi)
attribute [local go_sem ↓] Go.wp_at_zero Go.wp_at_succ
attribute [local go_sem ↓] ldw40 stw40 al40
attribute [local go_sem] run_ldT40 ldN_row run_stT40 stN_row stN_z run_al40 run_eq53
attribute [local go_sem] blk_new blk_at blk_old blk_drew blk_setCell blk_setRow alloc_setRow

theorem res40c {fn : Func} {p u : Tmp} (h : fn.results = #[.tmp u, .cell p 145]) (tmps : Array Value) (w : World) (g : Nat) (V : Nat → Value) (v : Value)
    (hp : tmps.getD p undef = .pointer (some ⟨g, 0, none⟩)) (hv : tmps.getD u undef = v) (hg : Row w g 16 145 V) : (results fn tmps).run Tryz.prog w = .ok (.tuple #[v, .agg (arr 16 V)]) w := by
  have hp' : tmps[p]?.getD undef = .pointer (some ⟨g, 0, none⟩) := by simpa using hp
  have hv' : tmps[u]?.getD undef = v := by simpa using hv
  have hl := run_loadVar_row (P := Tryz.prog) w g 145 145 _ (0, 0) _ hg Tryz.underlying145 rfl (by rw [arr_size]; exact info40)
  simp [results, h, hp', hv', asAddr, hl]
set_option maxRecDepth 100000 in
set_option maxHeartbeats 1000000 in
theorem mseal_any (g gc : Nat) (key n m p : ByteArray) (hk : KeyLen key.size) (hn : n.size ≤ 40) (hm : m.size ≤ 200) (hp : p.size ≤ 200) (w : World) (hM : Mod w g gc key) :
    Calls Tryz.prog 77 #[.pointer (some ⟨g, 0, none⟩), .string n, .string m, .string p] w fun e w' => e = .returned (.tuple #[.string (maskT key (firstF key n) p), .agg (arr 16 (by8 (tagF key (firstF key n) m (maskT key (firstF key n) p))))]) ∧ Below w.heap.size w w' := by
  have HK : Hid _ := hk
  have hz := maskT_size key (firstF key n) p
  have hlt := hM.lt
  clear hk
  have hf := fun w' hM' => first_any g gc key n (by omega) w' hM'
  generalize firstF key n = J at *
  have HF : Hid _ := hf
  clear hf
  go_enter Tryz.func77, Tryz.ntmps77
  go_wp2_with fail
  refine (HF.out _ (hM.alloc _)).mono ?_
  rintro e w1 ⟨rfl, b1⟩
  have M1 := (hM.alloc (.cells (arr 16 z8) 145)).keep b1
  have R0 : Row w1 w.heap.size 16 145 z8 := Row.keep (Row.new w 16 145 z8 _ rfl) b1 (by simp)
  have B1 : Below w.heap.size w w1 := ((Below.refl _ w).alloc (Nat.le_refl _) (.cells (arr 16 z8) 145)).trans (b1.mono (by simp))
  clear hM b1
  have l0 := R0.lt
  go_wp2_with fail
  refine (crossed_any g gc key p J HK.out (by omega) _ (M1.alloc _)).mono ?_
  rintro e w2 ⟨rfl, b2⟩
  have M2 := (M1.alloc (.cells (arr 16 (by8 J)) 145)).keep b2
  have R2 := (R0.alloc (.cells (arr 16 (by8 J)) 145)).keep b2 (by simp; omega)
  have R3 : Row w2 w1.heap.size 16 145 (by8 J) := Row.keep (Row.new w1 16 145 (by8 J) _ rfl) b2 (by simp)
  have B2 : Below w.heap.size w w2 := (B1.alloc B1.size (.cells (arr 16 (by8 J)) 145)).trans (b2.mono (by have := B1.size; simp; omega))
  clear M1 R0 b2
  have q3 := heap_pos R3
  go_wp2_with fail
  refine (tag_any g gc key m _ J HK.out (by omega) (by omega) _ M2).mono ?_
  rintro e w3 ⟨rfl, b3⟩
  have R4 := R2.keep b3 R2.lt
  have B3 := B2.trans (b3.mono B2.size)
  clear q3
  have q4 := heap_pos R4
  go_wp2
  refine bodyPost_ret (res40c Tryz.results77 _ _ w.heap.size _ _ rfl rfl R4.setRow) rfl ⟨rfl, ?_⟩
  exact Below.setRow B3 (Nat.le_refl _) _
end Go.Proofs.YtgalgjmhdbncbaaGreat
namespace Go.Proofs.YtgalgjmhdbncbaaGreat
open Go.RowKit
attribute [local go_sem ↓] Go.wp_at_zero Go.wp_at_succ
attribute [local go_sem ↓] ldw40 stw40 al40
attribute [local go_sem] run_ldT40 ldN_row run_stT40 stN_row stN_z run_al40 run_eq53
attribute [local go_sem] blk_new blk_at blk_old blk_drew blk_setCell blk_setRow alloc_setRow
structure SO (w0 w : World) (n g gc a : Nat) (key : ByteArray) (t J : Nat → UInt8) : Prop where
  m : Mod w g gc key
  r0 : Row w n 16 145 (by8 t)
  r1 : Row w a 16 145 (by8 J)
  b : Below n w0 w
theorem SO.drew {w0 w : World} {n g gc a : Nat} {key : ByteArray} {t J : Nat → UInt8} (h : SO w0 w n g gc a key t J) : SO w0 w.drew n g gc a key t J := ⟨h.m.drew, h.r0, h.r1, h.b.drew⟩
theorem SO.keep {w0 w w1 : World} {n g gc a : Nat} {key : ByteArray} {t J : Nat → UInt8} (h : SO w0 w n g gc a key t J) (hb : Below w.heap.size w w1) : SO w0 w1 n g gc a key t J :=
  ⟨h.m.keep hb, h.r0.keep hb h.r0.lt, h.r1.keep hb h.r1.lt, h.b.trans (hb.mono (Nat.le_of_lt h.r0.lt))⟩
set_option maxRecDepth 100000 in
set_option maxHeartbeats 1000000 in
theorem mopen_yes (g gc : Nat) (key n m b : ByteArray) (t : Nat → UInt8) (hk : KeyLen key.size) (hn : n.size ≤ 40) (hm : m.size ≤ 200) (hb : b.size ≤ 200) (ht : str 16 (tagF key (firstF key n) m b) = str 16 t) (w : World) (hM : Mod w g gc key) :
    Calls Tryz.prog 88 #[.pointer (some ⟨g, 0, none⟩), .string n, .string m, .string b, .agg (arr 16 (by8 t))] w fun e w' => e = .returned (.tuple #[.string (maskT key (firstF key n) b), .bool true]) ∧ Below w.heap.size w w' := by
  have HK : Hid _ := hk
  have hlt := hM.lt
  clear hk
  have hf := fun w' hM' => first_any g gc key n (by omega) w' hM'
  generalize firstF key n = J at *
  have hs := (same16_iff _ _).2 ht
  have HF : Hid _ := hf
  clear hf ht
  go_enter Tryz.func88, Tryz.ntmps88
  go_wp2_with fail
  refine (HF.out _ (hM.alloc _)).mono ?_
  rintro e w1 ⟨rfl, b1⟩
  have S1 : SO w (w1.alloc (.cells (arr 16 (by8 J)) 145)) w.heap.size g gc w1.heap.size key t J :=
    ⟨((hM.alloc (.cells (arr 16 (by8 t)) 145)).keep b1).alloc _, (Row.keep (Row.new w 16 145 (by8 t) _ rfl) b1 (by simp)).alloc _, Row.new _ _ _ _ _ rfl,
      (((Below.refl _ w).alloc (Nat.le_refl _) (.cells (arr 16 (by8 t)) 145)).trans (b1.mono (by simp))).alloc (by have := b1.size; simp at this; omega) _⟩
  clear hM HF
  go_wp2_with fail
  suffices H : ∀ W, SO w W w.heap.size g gc w1.heap.size key t J → Code.wp Tryz.prog _ _ _ W from H _ S1
  intro W hS
  clear S1 b1
  have q0 := heap_pos hS.r0
  have q1 := heap_pos hS.r1
  go_region_with (first
    | (go_at_call 117; refine (tag_any g gc key m b J HK.out (by omega) (by omega) _ hS.drew.m).mono ?_; rintro e w2 ⟨rfl, b2⟩; have hS := hS.drew.keep b2; have q0 := heap_pos hS.r0; have q1 := heap_pos hS.r1))
  all_goals
    go_wp2_with fail
    refine (crossed_any g gc key b J HK.out (by omega) _ hS.m).mono ?_
    rintro e w3 ⟨rfl, b3⟩
    have hS := hS.keep b3
    go_wp2
    go_ret2
    exact ⟨rfl, hS.b⟩
set_option maxRecDepth 100000 in
set_option maxHeartbeats 1000000 in
theorem mopen_no (g gc : Nat) (key n m b : ByteArray) (t : Nat → UInt8) (hk : KeyLen key.size) (hn : n.size ≤ 40) (hm : m.size ≤ 200) (hb : b.size ≤ 200) (ht : str 16 (tagF key (firstF key n) m b) ≠ str 16 t) (w : World) (hM : Mod w g gc key) :
    Calls Tryz.prog 88 #[.pointer (some ⟨g, 0, none⟩), .string n, .string m, .string b, .agg (arr 16 (by8 t))] w fun e w' => e = .returned (.tuple #[.string ⟨#[]⟩, .bool false]) ∧ Below w.heap.size w w' := by
  have HK : Hid _ := hk
  have hlt := hM.lt
  clear hk
  have hf := fun w' hM' => first_any g gc key n (by omega) w' hM'
  generalize firstF key n = J at *
  have hs : same16 (tagF key J m b) t = false := by
    cases h : same16 (tagF key J m b) t
    · rfl
    · exact absurd ((same16_iff _ _).1 h) ht
  have HF : Hid _ := hf
  clear hf ht
  go_enter Tryz.func88, Tryz.ntmps88
  go_wp2_with fail
  refine (HF.out _ (hM.alloc _)).mono ?_
  rintro e w1 ⟨rfl, b1⟩
  have S1 : SO w (w1.alloc (.cells (arr 16 (by8 J)) 145)) w.heap.size g gc w1.heap.size key t J :=
    ⟨((hM.alloc (.cells (arr 16 (by8 t)) 145)).keep b1).alloc _, (Row.keep (Row.new w 16 145 (by8 t) _ rfl) b1 (by simp)).alloc _, Row.new _ _ _ _ _ rfl,
      (((Below.refl _ w).alloc (Nat.le_refl _) (.cells (arr 16 (by8 t)) 145)).trans (b1.mono (by simp))).alloc (by have := b1.size; simp at this; omega) _⟩
  clear hM HF
  go_wp2_with fail
  suffices H : ∀ W, SO w W w.heap.size g gc w1.heap.size key t J → Code.wp Tryz.prog _ _ _ W from H _ S1
  intro W hS
  clear S1 b1
  have q0 := heap_pos hS.r0
  have q1 := heap_pos hS.r1
  go_region_with (first
    | (go_at_call 117; refine (tag_any g gc key m b J HK.out (by omega) (by omega) _ hS.drew.m).mono ?_; rintro e w2 ⟨rfl, b2⟩; have hS := hS.drew.keep b2; have q0 := heap_pos hS.r0; have q1 := heap_pos hS.r1))
  all_goals
    go_wp2
    go_ret2
    exact ⟨rfl, hS.b⟩
end Go.Proofs.YtgalgjmhdbncbaaGreat
namespace Go.Proofs.YtgalgjmhdbncbaaGreat
open Go.RowKit
attribute [local go_sem ↓] Go.wp_at_zero Go.wp_at_succ
attribute [local go_sem ↓] ldw40 stw40 al40
attribute [local go_sem] run_ldT40 ldN_row run_stT40 stN_row stN_z run_al40
attribute [local go_sem] blk_new blk_at blk_old blk_drew blk_setCell blk_setRow alloc_setRow

def NonceLen (n : Nat) : Prop := 1 ≤ n ∧ n ≤ 40
set_option maxRecDepth 100000 in
set_option maxHeartbeats 1000000 in
theorem ready_key (key n : ByteArray) (hs : key.size ≤ maxLen) (hk : ¬ KeyLen key.size) (w : World) :
    Calls Tryz.prog 126 #[.string key, .string n] w fun e w' => e = .returned (.tuple #[.pointer none, .int .i64 2]) ∧ Below w.heap.size w w' := by
  go_enter Tryz.func126, Tryz.ntmps126
  go_wp2_with fail
  refine (gnew_no key hs hk _).mono ?_
  rintro e w1 ⟨rfl, hw⟩
  subst hw
  go_wp2
  go_ret2
  exact ⟨rfl, Below.refl _ _⟩
set_option maxRecDepth 100000 in
set_option maxHeartbeats 1000000 in
theorem ready_nonce (key n : ByteArray) (hs : key.size ≤ maxLen) (hk : KeyLen key.size) (hn : ¬ NonceLen n.size) (hz : n.size ≤ maxLen) (w : World) :
    Calls Tryz.prog 126 #[.string key, .string n] w fun e w' => e = .returned (.tuple #[.pointer none, .int .i64 3]) ∧ Below w.heap.size w w' := by
  have HK : Hid _ := hk
  unfold maxLen at hz
  unfold NonceLen at hn
  clear hk
  by_cases h1 : n.size < 1
  · clear hn
    go_enter Tryz.func126, Tryz.ntmps126
    go_wp2_with fail
    refine (gnew_yes key hs HK.out _).mono ?_
    rintro e w1 ⟨g, gc, rfl, _, _, _, hb⟩
    go_wp2
    go_ret2
    exact ⟨rfl, hb⟩
  · have h2 : 40 < n.size := by omega
    clear hn
    go_enter Tryz.func126, Tryz.ntmps126
    go_wp2_with fail
    refine (gnew_yes key hs HK.out _).mono ?_
    rintro e w1 ⟨g, gc, rfl, _, _, _, hb⟩
    go_wp2
    go_ret2
    exact ⟨rfl, hb⟩
set_option maxRecDepth 100000 in
set_option maxHeartbeats 1000000 in
theorem ready_ok (key n : ByteArray) (hs : key.size ≤ maxLen) (hk : KeyLen key.size) (hn : NonceLen n.size) (w : World) :
    Calls Tryz.prog 126 #[.string key, .string n] w fun e w' => ∃ g gc, e = .returned (.tuple #[.pointer (some ⟨g, 0, none⟩), .int .i64 0]) ∧ w.heap.size ≤ g ∧ w.heap.size ≤ gc ∧ Mod w' g gc key ∧ Below w.heap.size w w' := by
  have HK : Hid _ := hk
  obtain ⟨h1, h2⟩ := hn
  clear hk
  go_enter Tryz.func126, Tryz.ntmps126
  go_wp2_with fail
  refine (gnew_yes key hs HK.out _).mono ?_
  rintro e w1 ⟨g, gc, rfl, hg, hgc, hM, hb⟩
  go_wp2
  go_ret2
  exact ⟨g, gc, rfl, hg, hgc, hM, hb⟩

set_option maxRecDepth 100000 in
set_option maxHeartbeats 1000000 in
theorem seal_key (key n m p : ByteArray) (hs : key.size ≤ maxLen) (hk : ¬ KeyLen key.size) (w : World) :
    Calls Tryz.prog 93 #[.string key, .string n, .string m, .string p] w fun e w' => e = .returned (.tuple #[.string ⟨#[]⟩, .int .i64 2]) ∧ Below w.heap.size w w' := by
  go_enter Tryz.func93, Tryz.ntmps93
  go_wp2_with fail
  refine (ready_key key n hs hk _).mono ?_
  rintro e w1 ⟨rfl, hb⟩
  go_wp2
  go_ret2
  exact ⟨rfl, hb⟩
set_option maxRecDepth 100000 in
set_option maxHeartbeats 1000000 in
theorem seal_nonce (key n m p : ByteArray) (hs : key.size ≤ maxLen) (hk : KeyLen key.size) (hn : ¬ NonceLen n.size) (hz : n.size ≤ maxLen) (w : World) :
    Calls Tryz.prog 93 #[.string key, .string n, .string m, .string p] w fun e w' => e = .returned (.tuple #[.string ⟨#[]⟩, .int .i64 3]) ∧ Below w.heap.size w w' := by
  go_enter Tryz.func93, Tryz.ntmps93
  go_wp2_with fail
  refine (ready_nonce key n hs hk hn hz _).mono ?_
  rintro e w1 ⟨rfl, hb⟩
  go_wp2
  go_ret2
  exact ⟨rfl, hb⟩
set_option maxRecDepth 100000 in
set_option maxHeartbeats 1000000 in
theorem seal_long (key n m p : ByteArray) (hs : key.size ≤ maxLen) (hk : KeyLen key.size) (hn : NonceLen n.size) (hl : 200 < m.size ∨ 200 < p.size) (hm : m.size ≤ maxLen) (hp : p.size ≤ maxLen) (w : World) :
    Calls Tryz.prog 93 #[.string key, .string n, .string m, .string p] w fun e w' => e = .returned (.tuple #[.string ⟨#[]⟩, .int .i64 4]) ∧ Below w.heap.size w w' := by
  have HK : Hid _ := hk
  have HN : Hid _ := hn
  unfold maxLen at hm hp
  clear hk hn
  by_cases h1 : 200 < m.size
  · clear hl
    go_enter Tryz.func93, Tryz.ntmps93
    go_wp2_with fail
    refine (ready_ok key n hs HK.out HN.out _).mono ?_
    rintro e w1 ⟨g, gc, rfl, _, _, _, hb⟩
    go_wp2
    go_ret2
    exact ⟨rfl, hb⟩
  · have h2 : 200 < p.size := by omega
    clear hl
    go_enter Tryz.func93, Tryz.ntmps93
    go_wp2_with fail
    refine (ready_ok key n hs HK.out HN.out _).mono ?_
    rintro e w1 ⟨g, gc, rfl, _, _, _, hb⟩
    go_wp2
    go_ret2
    exact ⟨rfl, hb⟩
set_option maxRecDepth 100000 in
set_option maxHeartbeats 1000000 in
theorem seal_ok (key n m p : ByteArray) (hs : key.size ≤ maxLen) (hk : KeyLen key.size) (hn : NonceLen n.size) (hm : m.size ≤ 200) (hp : p.size ≤ 200) (w : World) :
    Calls Tryz.prog 93 #[.string key, .string n, .string m, .string p] w fun e w' => e = .returned (.tuple #[.string (sealT key n m p), .int .i64 0]) ∧ Below w.heap.size w w' := by
  have HK : Hid _ := hk
  have HN : Hid _ := hn
  have hz := maskT_size key (firstF key n) p
  have hz2 := str_size 16 (tagF key (firstF key n) m (maskT key (firstF key n) p))
  have HT : Hid (sealT key n m p = maskT key (firstF key n) p ++ str 16 (tagF key (firstF key n) m (maskT key (firstF key n) p))) := rfl
  clear hk hn
  go_enter Tryz.func93, Tryz.ntmps93
  go_wp2_with fail
  refine (ready_ok key n hs HK.out HN.out _).mono ?_
  rintro e w1 ⟨g, gc, rfl, hg, hgc, hM, hb⟩
  go_wp2_with fail
  refine (mseal_any g gc key n m p HK.out HN.out.2 hm hp _ hM).mono ?_
  rintro e w2 ⟨rfl, b2⟩
  go_wp2_with fail
  refine (text_any _ _).mono ?_
  rintro e w3 ⟨rfl, b3⟩
  go_wp2
  go_ret2
  have z1 := hb.size
  have z2 := b2.size
  refine ⟨by rw [HT.out]; rfl, ((hb.trans (b2.mono z1)).alloc (by omega) _).trans (b3.mono (by simp; omega))⟩

set_option maxRecDepth 100000 in
set_option maxHeartbeats 1000000 in
theorem open_key (key n m p : ByteArray) (hs : key.size ≤ maxLen) (hk : ¬ KeyLen key.size) (w : World) :
    Calls Tryz.prog 95 #[.string key, .string n, .string m, .string p] w fun e w' => e = .returned (.tuple #[.string ⟨#[]⟩, .int .i64 2]) ∧ Below w.heap.size w w' := by
  go_enter Tryz.func95, Tryz.ntmps95
  go_wp2_with fail
  refine (ready_key key n hs hk _).mono ?_
  rintro e w1 ⟨rfl, hb⟩
  go_wp2
  go_ret2
  exact ⟨rfl, hb⟩
set_option maxRecDepth 100000 in
set_option maxHeartbeats 1000000 in
theorem open_nonce (key n m p : ByteArray) (hs : key.size ≤ maxLen) (hk : KeyLen key.size) (hn : ¬ NonceLen n.size) (hz : n.size ≤ maxLen) (w : World) :
    Calls Tryz.prog 95 #[.string key, .string n, .string m, .string p] w fun e w' => e = .returned (.tuple #[.string ⟨#[]⟩, .int .i64 3]) ∧ Below w.heap.size w w' := by
  go_enter Tryz.func95, Tryz.ntmps95
  go_wp2_with fail
  refine (ready_nonce key n hs hk hn hz _).mono ?_
  rintro e w1 ⟨rfl, hb⟩
  go_wp2
  go_ret2
  exact ⟨rfl, hb⟩
set_option maxRecDepth 100000 in
set_option maxHeartbeats 1000000 in
theorem open_long (key n m p : ByteArray) (hs : key.size ≤ maxLen) (hk : KeyLen key.size) (hn : NonceLen n.size) (hl : 200 < m.size ∨ 216 < p.size) (hm : m.size ≤ maxLen) (hp : p.size ≤ maxLen) (w : World) :
    Calls Tryz.prog 95 #[.string key, .string n, .string m, .string p] w fun e w' => e = .returned (.tuple #[.string ⟨#[]⟩, .int .i64 4]) ∧ Below w.heap.size w w' := by
  have HK : Hid _ := hk
  have HN : Hid _ := hn
  unfold maxLen at hm hp
  clear hk hn
  by_cases h1 : 200 < m.size
  · clear hl
    go_enter Tryz.func95, Tryz.ntmps95
    go_wp2_with fail
    refine (ready_ok key n hs HK.out HN.out _).mono ?_
    rintro e w1 ⟨g, gc, rfl, _, _, _, hb⟩
    go_wp2
    go_ret2
    exact ⟨rfl, hb⟩
  · have h2 : 216 < p.size := by omega
    clear hl
    go_enter Tryz.func95, Tryz.ntmps95
    go_wp2_with fail
    refine (ready_ok key n hs HK.out HN.out _).mono ?_
    rintro e w1 ⟨g, gc, rfl, _, _, _, hb⟩
    go_wp2
    go_ret2
    exact ⟨rfl, hb⟩
set_option maxRecDepth 100000 in
set_option maxHeartbeats 1000000 in
theorem open_size (key n m p : ByteArray) (hs : key.size ≤ maxLen) (hk : KeyLen key.size) (hn : NonceLen n.size) (hm : m.size ≤ 200) (hp : p.size < 16) (w : World) :
    Calls Tryz.prog 95 #[.string key, .string n, .string m, .string p] w fun e w' => e = .returned (.tuple #[.string ⟨#[]⟩, .int .i64 5]) ∧ Below w.heap.size w w' := by
  have HK : Hid _ := hk
  have HN : Hid _ := hn
  clear hk hn
  go_enter Tryz.func95, Tryz.ntmps95
  go_wp2_with fail
  refine (ready_ok key n hs HK.out HN.out _).mono ?_
  rintro e w1 ⟨g, gc, rfl, _, _, _, hb⟩
  go_wp2
  go_ret2
  exact ⟨rfl, hb⟩
end Go.Proofs.YtgalgjmhdbncbaaGreat
namespace Go.Proofs.YtgalgjmhdbncbaaGreat
open Go.RowKit
attribute [local go_sem ↓] Go.wp_at_zero Go.wp_at_succ
attribute [local go_sem ↓] ldw40 stw40 al40
attribute [local go_sem] run_ldT40 ldN_row run_stT40 stN_row stN_z run_al40
attribute [local go_sem] blk_new blk_at blk_old blk_drew blk_setCell blk_setRow alloc_setRow

structure SP (w0 w : World) (B g gc a : Nat) (key : ByteArray) (t : Nat → UInt8) : Prop where
  m : Mod w g gc key
  r : Row w a 16 145 (by8 t)
  b : Below B w0 w
  l : B ≤ w.heap.size
theorem SP.drew {w0 w : World} {B g gc a : Nat} {key : ByteArray} {t : Nat → UInt8} (h : SP w0 w B g gc a key t) : SP w0 w.drew B g gc a key t := ⟨h.m.drew, h.r, h.b.drew, h.l⟩
theorem SP.keep {w0 w w1 : World} {B g gc a : Nat} {key : ByteArray} {t : Nat → UInt8} (h : SP w0 w B g gc a key t) (hb : Below w.heap.size w w1) : SP w0 w1 B g gc a key t :=
  ⟨h.m.keep hb, h.r.keep hb h.r.lt, h.b.trans (hb.mono h.l), Nat.le_trans h.l hb.size⟩
set_option maxRecDepth 100000 in
set_option maxHeartbeats 1000000 in
theorem open_mid (key n m p : ByteArray) (hs : key.size ≤ maxLen) (hk : KeyLen key.size) (hn : NonceLen n.size) (hm : m.size ≤ 200) (hp : 16 ≤ p.size) (hp2 : p.size ≤ 216) (v : Value) (x : ByteArray) (ok : Bool) (c : Int)
    (hc : v = .tuple #[.string x, .int .i64 c]) (hok : (ok = true ∧ c = 0) ∨ (ok = false ∧ c = 6 ∧ x = ⟨#[]⟩))
    (hO : ∀ (g gc : Nat) (w : World), Mod w g gc key → Calls Tryz.prog 88 #[.pointer (some ⟨g, 0, none⟩), .string n, .string m, .string (p.extract 0 (p.size - 16)), .agg (arr 16 (by8 (sf (p.extract (p.size - 16) p.size))))] w fun e w' => e = .returned (.tuple #[.string x, .bool ok]) ∧ Below w.heap.size w w') (w : World) :
    Calls Tryz.prog 95 #[.string key, .string n, .string m, .string p] w fun e w' => e = .returned v ∧ Below w.heap.size w w' := by
  subst hc
  have HK : Hid _ := hk
  have HN : Hid _ := hn
  obtain ⟨E, hE⟩ : ∃ E, p.size = E + 16 := ⟨p.size - 16, by omega⟩
  have hcut := cut_size p E p.size (Nat.le_refl _)
  rw [show p.size - 16 = E by omega] at hO
  have HO : Hid _ := hO
  have hi : ((p.size : Int) - 16) = (E : Int) := by omega
  have hE2 : (E : Int) ≤ (p.size : Int) := by omega
  have hE3 : E ≤ p.size := by omega
  have HC : Hid ((p.extract E p.size).size = 16) := by show _ = _; omega
  clear hk hn hO hcut hE
  go_enter Tryz.func95, Tryz.ntmps95
  go_wp2_with fail
  refine (ready_ok key n hs HK.out HN.out _).mono ?_
  rintro e w1 ⟨g, gc, rfl, hg, hgc, hM, hb⟩
  go_wp2_with fail
  refine (of_yes _ _ HC.out).mono ?_
  rintro e w2 ⟨rfl, b2⟩
  generalize ht : sf (p.extract E p.size) = t at *
  have S1 : SP w (w2.alloc (.cells (arr 16 (by8 t)) 145)) w.heap.size g gc w2.heap.size key t :=
    ⟨(hM.keep b2).alloc _, Row.new _ _ _ _ _ rfl, (hb.trans (b2.mono hb.size)).alloc (Nat.le_trans hb.size b2.size) _, by have := hb.size; have := b2.size; simp; omega⟩
  clear hM hb b2
  go_wp2_with fail
  suffices H : ∀ W, SP w W w.heap.size g gc w2.heap.size key t → Code.wp Tryz.prog _ _ _ W from H _ S1
  intro W hS
  clear S1
  have q1 := heap_pos hS.r
  go_region_with (first
    | (go_at_call 88; refine (HO.out g gc _ hS.drew.m).mono ?_; rintro e w3 ⟨rfl, b3⟩; have hS := hS.drew.keep b3))
  all_goals
    rcases hok with ⟨rfl, rfl⟩ | ⟨rfl, rfl, rfl⟩
    · go_wp2
      go_ret2
      exact ⟨rfl, hS.b⟩
    · go_wp2
      go_ret2
      exact ⟨rfl, hS.b⟩
theorem open_yes (key n m p : ByteArray) (hs : key.size ≤ maxLen) (hk : KeyLen key.size) (hn : NonceLen n.size) (hm : m.size ≤ 200) (hp : 16 ≤ p.size) (hp2 : p.size ≤ 216)
    (ht : str 16 (tagF key (firstF key n) m (p.extract 0 (p.size - 16))) = p.extract (p.size - 16) p.size) (w : World) :
    Calls Tryz.prog 95 #[.string key, .string n, .string m, .string p] w fun e w' => e = .returned (.tuple #[.string (maskT key (firstF key n) (p.extract 0 (p.size - 16))), .int .i64 0]) ∧ Below w.heap.size w w' := by
  have hz : (p.extract (p.size - 16) p.size).size = 16 := by rw [cut_size _ _ _ (Nat.le_refl _)]; omega
  have hz2 : (p.extract 0 (p.size - 16)).size ≤ 200 := by rw [cut_size _ _ _ (by omega)]; omega
  refine open_mid key n m p hs hk hn hm hp hp2 _ _ true 0 rfl (.inl ⟨rfl, rfl⟩) (fun g gc w hM => ?_) w
  exact mopen_yes g gc key n m _ _ hk hn.2 hm hz2 (by rw [str_sf _ _ hz]; exact ht) w hM
theorem open_no (key n m p : ByteArray) (hs : key.size ≤ maxLen) (hk : KeyLen key.size) (hn : NonceLen n.size) (hm : m.size ≤ 200) (hp : 16 ≤ p.size) (hp2 : p.size ≤ 216)
    (ht : str 16 (tagF key (firstF key n) m (p.extract 0 (p.size - 16))) ≠ p.extract (p.size - 16) p.size) (w : World) :
    Calls Tryz.prog 95 #[.string key, .string n, .string m, .string p] w fun e w' => e = .returned (.tuple #[.string ⟨#[]⟩, .int .i64 6]) ∧ Below w.heap.size w w' := by
  have hz : (p.extract (p.size - 16) p.size).size = 16 := by rw [cut_size _ _ _ (Nat.le_refl _)]; omega
  have hz2 : (p.extract 0 (p.size - 16)).size ≤ 200 := by rw [cut_size _ _ _ (by omega)]; omega
  refine open_mid key n m p hs hk hn hm hp hp2 _ _ false 6 rfl (.inr ⟨rfl, rfl, rfl⟩) (fun g gc w hM => ?_) w
  exact mopen_no g gc key n m _ _ hk hn.2 hm hz2 (by rw [str_sf _ _ hz]; exact ht) w hM
end Go.Proofs.YtgalgjmhdbncbaaGreat
namespace Go.Proofs.YtgalgjmhdbncbaaGreat
open Go.RowKit

theorem rxor_mask (key p : ByteArray) (J : Nat → UInt8) (hp : p.size ≤ 1000) (w : World) : Calls Tryz.prog 129 #[.string p, .string (str p.size (streamF key J))] w fun e w' => e = .returned (.string (maskT key J p)) ∧ Below w.heap.size w w' := by
  have h := rxor_ref p.size (sf p) (streamF key J) (by omega) w
  rw [str_sf p _ rfl] at h
  exact h
theorem not_key {n : Nat} (h : ¬ KeyLen n) : n ≠ 16 ∧ n ≠ 24 ∧ n ≠ 32 := ⟨fun e => h (.inl e), fun e => h (.inr (.inl e)), fun e => h (.inr (.inr e))⟩
set_option maxRecDepth 100000 in
set_option maxHeartbeats 1000000 in
theorem rSeal_key (key n m p : ByteArray) (hk : ¬ KeyLen key.size) (w : World) :
    Calls Tryz.prog 94 #[.string key, .string n, .string m, .string p] w fun e w' => e = .returned (.tuple #[.string ⟨#[]⟩, .int .i64 2]) ∧ Below w.heap.size w w' := by
  have HK : Hid _ := not_key hk
  clear hk
  go_enter Tryz.func94, Tryz.ntmps94
  go_wp2_with fail
  refine (rAlg_no key HK.out.1 HK.out.2.1 HK.out.2.2 _).mono ?_
  rintro e w1 ⟨rfl, hw⟩
  subst hw
  go_wp2
  go_ret2
  exact ⟨rfl, Below.refl _ _⟩
set_option maxRecDepth 100000 in
set_option maxHeartbeats 1000000 in
theorem rSeal_nonce (key n m p : ByteArray) (hk : KeyLen key.size) (hn : ¬ NonceLen n.size) (hz : n.size ≤ maxLen) (w : World) :
    Calls Tryz.prog 94 #[.string key, .string n, .string m, .string p] w fun e w' => e = .returned (.tuple #[.string ⟨#[]⟩, .int .i64 3]) ∧ Below w.heap.size w w' := by
  have HK : Hid _ := hk
  unfold maxLen at hz
  unfold NonceLen at hn
  clear hk
  by_cases h1 : n.size < 1
  · clear hn
    go_enter Tryz.func94, Tryz.ntmps94
    go_wp2_with fail
    refine (rAlg_yes key HK.out _).mono ?_
    rintro e w1 ⟨⟨a, ⟨ha, _⟩, rfl⟩, hw⟩
    subst hw
    have ha' : ((a : Int) == 0) = false := by rw [beq_eq_false_iff_ne]; omega
    go_wp2
    go_ret2
    exact ⟨rfl, Below.refl _ _⟩
  · have h2 : 40 < n.size := by omega
    clear hn
    go_enter Tryz.func94, Tryz.ntmps94
    go_wp2_with fail
    refine (rAlg_yes key HK.out _).mono ?_
    rintro e w1 ⟨⟨a, ⟨ha, _⟩, rfl⟩, hw⟩
    subst hw
    have ha' : ((a : Int) == 0) = false := by rw [beq_eq_false_iff_ne]; omega
    go_wp2
    go_ret2
    exact ⟨rfl, Below.refl _ _⟩
set_option maxRecDepth 100000 in
set_option maxHeartbeats 1000000 in
theorem rSeal_long (key n m p : ByteArray) (hk : KeyLen key.size) (hn : NonceLen n.size) (hl : 200 < m.size ∨ 200 < p.size) (hm : m.size ≤ maxLen) (hp : p.size ≤ maxLen) (w : World) :
    Calls Tryz.prog 94 #[.string key, .string n, .string m, .string p] w fun e w' => e = .returned (.tuple #[.string ⟨#[]⟩, .int .i64 4]) ∧ Below w.heap.size w w' := by
  have HK : Hid _ := hk
  obtain ⟨hn1, hn2⟩ := hn
  unfold maxLen at hm hp
  clear hk
  by_cases h1 : 200 < m.size
  · clear hl
    go_enter Tryz.func94, Tryz.ntmps94
    go_wp2_with fail
    refine (rAlg_yes key HK.out _).mono ?_
    rintro e w1 ⟨⟨a, ⟨ha, _⟩, rfl⟩, hw⟩
    subst hw
    have ha' : ((a : Int) == 0) = false := by rw [beq_eq_false_iff_ne]; omega
    go_wp2
    go_ret2
    exact ⟨rfl, Below.refl _ _⟩
  · have h2 : 200 < p.size := by omega
    clear hl
    go_enter Tryz.func94, Tryz.ntmps94
    go_wp2_with fail
    refine (rAlg_yes key HK.out _).mono ?_
    rintro e w1 ⟨⟨a, ⟨ha, _⟩, rfl⟩, hw⟩
    subst hw
    have ha' : ((a : Int) == 0) = false := by rw [beq_eq_false_iff_ne]; omega
    go_wp2
    go_ret2
    exact ⟨rfl, Below.refl _ _⟩
set_option maxRecDepth 100000 in
set_option maxHeartbeats 1000000 in
theorem rSeal_ok (key n m p : ByteArray) (hk : KeyLen key.size) (hn : NonceLen n.size) (hm : m.size ≤ 200) (hp : p.size ≤ 200) (w : World) :
    Calls Tryz.prog 94 #[.string key, .string n, .string m, .string p] w fun e w' => e = .returned (.tuple #[.string (sealT key n m p), .int .i64 0]) ∧ Below w.heap.size w w' := by
  have HK : Hid _ := hk
  obtain ⟨hn1, hn2⟩ := hn
  have hz := maskT_size key (firstF key n) p
  have hz2 := str_size 16 (tagF key (firstF key n) m (maskT key (firstF key n) p))
  have HT : Hid (sealT key n m p = maskT key (firstF key n) p ++ str 16 (tagF key (firstF key n) m (maskT key (firstF key n) p))) := rfl
  clear hk
  go_enter Tryz.func94, Tryz.ntmps94
  go_wp2_with fail
  refine (rAlg_yes key HK.out _).mono ?_
  rintro e w1 ⟨⟨a, ⟨ha, _⟩, rfl⟩, hw⟩
  subst hw
  have ha' : ((a : Int) == 0) = false := by rw [beq_eq_false_iff_ne]; omega
  go_wp2_with fail
  refine (first_ref key n HK.out (by omega) _).mono ?_
  rintro e w2 ⟨rfl, b2⟩
  go_wp2_with fail
  refine (stream_ref key (firstF key n) p.size HK.out (by omega) _).mono ?_
  rintro e w3 ⟨rfl, b3⟩
  go_wp2_with fail
  refine (rxor_mask key p (firstF key n) (by omega) _).mono ?_
  rintro e w4 ⟨rfl, b4⟩
  go_wp2_with fail
  refine (tag_ref key m _ (firstF key n) HK.out (by omega) (by omega) _).mono ?_
  rintro e w5 ⟨rfl, b5⟩
  go_wp2
  go_ret2
  have y2 := b2.size
  have y3 := b3.size
  have y4 := b4.size
  exact ⟨by rw [HT.out]; rfl, ((b2.trans (b3.mono (by omega))).trans (b4.mono (by omega))).trans (b5.mono (by omega))⟩
theorem sealBoth (key n m p : ByteArray) (hs : key.size ≤ maxLen) (hn : n.size ≤ maxLen) (hm : m.size ≤ maxLen) (hp : p.size ≤ maxLen) : ∃ (v : ByteArray) (c : Int),
    (∀ w, Calls Tryz.prog 93 #[.string key, .string n, .string m, .string p] w fun e w' => e = .returned (.tuple #[.string v, .int .i64 c]) ∧ Below w.heap.size w w') ∧
    (∀ w, Calls Tryz.prog 94 #[.string key, .string n, .string m, .string p] w fun e w' => e = .returned (.tuple #[.string v, .int .i64 c]) ∧ Below w.heap.size w w') := by
  by_cases hk : KeyLen key.size
  · by_cases h1 : NonceLen n.size
    · by_cases h2 : 200 < m.size ∨ 200 < p.size
      · exact ⟨_, _, fun w => seal_long key n m p hs hk h1 h2 hm hp w, fun w => rSeal_long key n m p hk h1 h2 hm hp w⟩
      · exact ⟨_, _, fun w => seal_ok key n m p hs hk h1 (by omega) (by omega) w, fun w => rSeal_ok key n m p hk h1 (by omega) (by omega) w⟩
    · exact ⟨_, _, fun w => seal_nonce key n m p hs hk h1 hn w, fun w => rSeal_nonce key n m p hk h1 hn w⟩
  · exact ⟨_, _, fun w => seal_key key n m p hs hk w, fun w => rSeal_key key n m p hk w⟩
end Go.Proofs.YtgalgjmhdbncbaaGreat
