import Derived.Test.YtgalgjmhdbncbabGreatZb26
import Derived.Test.YtgalgjmhdbncbabGreatZb24
import Derived.Test.YtgalgjmhdbncbabGreatZb13
import Derived.Test.YtgalgjmhdbncbabGreatZb00
import Derived.Test.YtgalgjmhdbncbabGreatZb22
import Derived.Deep.RegionHeld
namespace Go.Proofs.YtgalgjmhdbncbabGreat
open Go.RowKit

def algN (n : Nat) : Int := if n = 16 then 1 else if n = 24 then 2 else if n = 32 then 3 else 0

set_option maxRecDepth 100000 in
set_option maxHeartbeats 1000000 in
theorem rAlg_any (key : ByteArray) (w : World) : Calls Tryz.prog 63 #[.string key] w fun e w' => e = .returned (.int .i64 (algN key.size)) ∧ w' = w := by
  by_cases h16 : key.size = 16
  · have hA : algN key.size = 1 := by unfold algN; rw [if_pos h16]
    have b1 : ((key.size : Int) == 16) = true := by rw [beq_iff_eq]; omega
    rw [hA]
    clear hA h16
    go_enter Tryz.func63, Tryz.ntmps63
    go_wp2
    go_ret
    exact ⟨rfl, rfl⟩
  · have b1 : ((key.size : Int) == 16) = false := by rw [beq_eq_false_iff_ne]; omega
    by_cases h24 : key.size = 24
    · have hA : algN key.size = 2 := by unfold algN; rw [if_neg h16, if_pos h24]
      have b2 : ((key.size : Int) == 24) = true := by rw [beq_iff_eq]; omega
      rw [hA]
      clear hA h16 h24
      go_enter Tryz.func63, Tryz.ntmps63
      go_wp2
      go_ret
      exact ⟨rfl, rfl⟩
    · have b2 : ((key.size : Int) == 24) = false := by rw [beq_eq_false_iff_ne]; omega
      by_cases h32 : key.size = 32
      · have hA : algN key.size = 3 := by unfold algN; rw [if_neg h16, if_neg h24, if_pos h32]
        have b3 : ((key.size : Int) == 32) = true := by rw [beq_iff_eq]; omega
        rw [hA]
        clear hA h16 h24 h32
        go_enter Tryz.func63, Tryz.ntmps63
        go_wp2
        go_ret
        exact ⟨rfl, rfl⟩
      · have hA : algN key.size = 0 := by unfold algN; rw [if_neg h16, if_neg h24, if_neg h32]
        have b3 : ((key.size : Int) == 32) = false := by rw [beq_eq_false_iff_ne]; omega
        rw [hA]
        clear hA h16 h24 h32
        go_enter Tryz.func63, Tryz.ntmps63
        go_wp2
        go_ret
        exact ⟨rfl, rfl⟩
theorem rAlg_no (key : ByteArray) (h1 : key.size ≠ 16) (h2 : key.size ≠ 24) (h3 : key.size ≠ 32) (w : World) : Calls Tryz.prog 63 #[.string key] w fun e w' => e = .returned (.int .i64 0) ∧ w' = w := by
  have := rAlg_any key w
  rwa [show algN key.size = 0 by unfold algN; rw [if_neg h1, if_neg h2, if_neg h3]] at this
theorem rAlg_yes (key : ByteArray) (h : key.size = 16 ∨ key.size = 24 ∨ key.size = 32) (w : World) : Calls Tryz.prog 63 #[.string key] w fun e w' => (∃ n : Nat, (0 < n ∧ n < 4) ∧ e = .returned (.int .i64 n)) ∧ w' = w := by
  have := rAlg_any key w
  unfold algN at this
  rcases h with h | h | h
  · rw [if_pos h] at this
    exact this.mono fun e w' ⟨h1, h2⟩ => ⟨⟨1, by omega, h1⟩, h2⟩
  · rw [if_neg (by omega), if_pos h] at this
    exact this.mono fun e w' ⟨h1, h2⟩ => ⟨⟨2, by omega, h1⟩, h2⟩
  · rw [if_neg (by omega), if_neg (by omega), if_pos h] at this
    exact this.mono fun e w' ⟨h1, h2⟩ => ⟨⟨3, by omega, h1⟩, h2⟩

set_option maxRecDepth 100000 in
set_option maxHeartbeats 1000000 in
theorem rEnc_key (key block : ByteArray) (h1 : key.size ≠ 16) (h2 : key.size ≠ 24) (h3 : key.size ≠ 32) (w : World) :
    Calls Tryz.prog 38 #[.string key, .string block] w fun e w' => e = .returned (.tuple #[.string ⟨#[]⟩, .int .i64 2]) ∧ w' = w := by
  have H1 : Hid _ := h1
  have H2 : Hid _ := h2
  have H3 : Hid _ := h3
  clear h1 h2 h3
  go_enter Tryz.func38, Tryz.ntmps38
  go_wp2_with fail
  refine (rAlg_no key H1 H2 H3 _).mono ?_
  rintro e w1 ⟨rfl, hw⟩
  subst hw
  go_wp2
  go_ret2
  exact ⟨rfl, rfl⟩
set_option maxRecDepth 100000 in
set_option maxHeartbeats 1000000 in
theorem rEnc_size (key block : ByteArray) (h : key.size = 16 ∨ key.size = 24 ∨ key.size = 32) (hb : block.size ≠ 16) (w : World) :
    Calls Tryz.prog 38 #[.string key, .string block] w fun e w' => e = .returned (.tuple #[.string ⟨#[]⟩, .int .i64 5]) ∧ w' = w := by
  have H : Hid _ := h
  have b1 : ((block.size : Int) != 16) = true := by rw [bne_iff_ne]; omega
  clear h hb
  go_enter Tryz.func38, Tryz.ntmps38
  go_wp2_with fail
  refine (rAlg_yes key H _).mono ?_
  rintro e w1 ⟨⟨n, ⟨hn1, hn2⟩, rfl⟩, hw⟩
  subst hw
  have b0 : ((n : Int) == 0) = false := by rw [beq_eq_false_iff_ne]; omega
  go_wp2
  go_ret2
  exact ⟨rfl, rfl⟩
set_option maxRecDepth 100000 in
set_option maxHeartbeats 1000000 in
theorem rEnc_ok (key block : ByteArray) (h : key.size = 16 ∨ key.size = 24 ∨ key.size = 32) (hb : block.size = 16) (w : World) :
    Calls Tryz.prog 38 #[.string key, .string block] w fun e w' => e = .returned (.tuple #[.string (str 16 (aesF (sf key) (sf block) key.size)), .int .i64 0]) ∧ Below w.heap.size w w' := by
  have H : Hid _ := h
  have HB : Hid _ := hb
  have b1 : ((block.size : Int) != 16) = false := by rw [bne_eq_false_iff_eq]; omega
  clear h hb
  go_enter Tryz.func38, Tryz.ntmps38
  go_wp2_with fail
  refine (rAlg_yes key H _).mono ?_
  rintro e w1 ⟨⟨n, ⟨hn1, hn2⟩, rfl⟩, hw⟩
  subst hw
  have b0 : ((n : Int) == 0) = false := by rw [beq_eq_false_iff_ne]; omega
  go_wp2_with fail
  refine (E_ref key block H HB _).mono ?_
  rintro e w2 ⟨rfl, hb2⟩
  go_wp2
  go_ret2
  exact ⟨rfl, hb2⟩
set_option maxRecDepth 100000 in
set_option maxHeartbeats 1000000 in
theorem num_any (n : Int) (w : World) : Calls Tryz.prog 21 #[.int .i64 n] w fun e w' => e = .returned (.int .i64 n) ∧ w' = w := by
  go_enter Tryz.func21, Tryz.ntmps21
  go_wp2
  go_ret
  exact ⟨rfl, rfl⟩

theorem encBoth (key block : ByteArray) (hs : key.size ≤ maxLen) : ∃ (v : ByteArray) (n : Int),
    (∀ w, Calls Tryz.prog 37 #[.string key, .string block] w fun e w' => e = .returned (.tuple #[.string v, .int .i64 n]) ∧ Below w.heap.size w w') ∧
    (∀ w, Calls Tryz.prog 38 #[.string key, .string block] w fun e w' => e = .returned (.tuple #[.string v, .int .i64 n]) ∧ Below w.heap.size w w') := by
  by_cases h : key.size = 16 ∨ key.size = 24 ∨ key.size = 32
  · by_cases hb : block.size = 16
    · exact ⟨_, _, fun w => enc_ok key block hs h hb w, fun w => rEnc_ok key block h hb w⟩
    · exact ⟨_, _, fun w => enc_size key block hs h hb w, fun w => (rEnc_size key block h hb w).mono fun e w' ⟨h1, h2⟩ => ⟨h1, h2 ▸ Below.refl _ _⟩⟩
  · exact ⟨_, _, fun w => enc_key key block hs (fun e => h (.inl e)) (fun e => h (.inr (.inl e))) (fun e => h (.inr (.inr e))) w,
      fun w => (rEnc_key key block (fun e => h (.inl e)) (fun e => h (.inr (.inl e))) (fun e => h (.inr (.inr e))) w).mono fun e w' ⟨h1, h2⟩ => ⟨h1, h2 ▸ Below.refl _ _⟩⟩
theorem hashBoth (h s : ByteArray) (hs : s.size ≤ maxLen) : ∃ (v : ByteArray) (n : Int),
    (∀ w, Calls Tryz.prog 39 #[.string h, .string s] w fun e w' => e = .returned (.tuple #[.string v, .int .i64 n]) ∧ Below w.heap.size w w') ∧
    (∀ w, Calls Tryz.prog 40 #[.string h, .string s] w fun e w' => e = .returned (.tuple #[.string v, .int .i64 n]) ∧ Below w.heap.size w w') := by
  by_cases hh : h.size = 16
  · by_cases hn : s.size % 16 = 0
    · exact ⟨_, _, fun w => chash_ok h s w hh hs hn, fun w => rHash_ok h s hh hs hn w⟩
    · exact ⟨_, _, fun w => chash_size h s w hh hs hn, fun w => (rHash_size h s hh hs hn w).mono fun e w' ⟨h1, h2⟩ => ⟨h1, h2 ▸ Below.refl _ _⟩⟩
  · exact ⟨_, _, fun w => chash_key h s w hh, fun w => (rHash_key h s hh w).mono fun e w' ⟨h1, h2⟩ => ⟨h1, h2 ▸ Below.refl _ _⟩⟩
end Go.Proofs.YtgalgjmhdbncbabGreat
namespace Go.Proofs.YtgalgjmhdbncbabGreat
open Go.RowKit
attribute [local go_sem ↓] Go.wp_at_zero Go.wp_at_succ

theorem pad_step (s x : ByteArray) (n : Nat) (hn : s.size ≤ n) (hx : x.size = 1) (h0 : sf x 0 = 0) : str n (sf s) ++ x = str (n + 1) (sf s) := by
  apply bytes_ext
  · rw [ByteArray.size_append, str_size, str_size, hx]
  · intro j hj
    rw [ByteArray.size_append, str_size, hx] at hj
    rw [sf_append, str_size, sf_str (n + 1) _ j (by omega)]
    by_cases h : j < n
    · rw [if_pos h, sf_str _ _ _ h]
    · rw [if_neg h, show j - n = 0 by omega, h0, sf_past _ _ (by omega)]
set_option maxRecDepth 100000 in
set_option maxHeartbeats 1000000 in
theorem padded_ref (s : ByteArray) (hs : s.size ≤ 1000) (w : World) : Calls Tryz.prog 121 #[.string s] w fun e w' => e = .returned (.string (padT s)) ∧ w' = w := by
  have hu := up16_up s.size
  have hm := up16_mod s.size
  have HS : Hid (str s.size (sf s) = s) := str_sf s _ rfl
  go_enter Tryz.func121, Tryz.ntmps121
  go_wp2
  go_loop [0] (fun t => ∃ L : Nat, s.size ≤ L ∧ L ≤ up16 s.size ∧ t = .string (str L (sf s))) (fun t => up16 s.size - strLen t)
  case atStart => exact ⟨s.size, Nat.le_refl _, up16_le s.size, by rw [HS.out]⟩
  case round =>
    obtain ⟨L, hL, hk, rfl⟩ := hrel
    have hz := str_size L (sf s)
    by_cases h : L % 16 = 0
    · have hd : ((L : Int) % 16 != 0) = false := by rw [bne_eq_false_iff_eq]; omega
      have he : L = up16 s.size := by unfold up16 at *; omega
      have HE : Hid (str L (sf s) = padT s) := by show _ = _; rw [he]; rfl
      clear he h hk hu hm
      go_wp2
      go_ret
      exact ⟨by rw [← HE.out]; rfl, rfl⟩
    · have hd : ((L : Int) % 16 != 0) = true := by rw [bne_iff_ne]; omega
      have hlt : L < up16 s.size := by
        rcases Nat.lt_or_ge L (up16 s.size) with h' | h'
        · exact h'
        · exfalso
          have : L = up16 s.size := by omega
          omega
      go_wp2
      go_round
      case rel => exact ⟨L + 1, by omega, by omega, congrArg Value.string (pad_step s _ L (by omega) rfl rfl)⟩
      case measure => simp only [strLen]; rw [ByteArray.size_append, hz]; show up16 s.size - (L + 1) < _; omega
set_option maxRecDepth 100000 in
set_option maxHeartbeats 1000000 in
theorem value_ref (s : ByteArray) (a n : Nat) (ha : a + n ≤ s.size) (hn : n ≤ 4) (ha2 : a ≤ 1000) (w : World) : Calls Tryz.prog 94 #[.string s, .int .i64 a, .int .i64 n] w fun e w' => e = .returned (.int .i64 (valF (sf s) a n)) ∧ w' = w := by
  go_enter Tryz.func94, Tryz.ntmps94
  go_wp2
  go_loop [7, 8] (fun x i => ∃ q u : Nat, Hid (u = valF (sf s) a q) ∧ q ≤ n ∧ u < 4294967296 ∧ x = .int .i64 u ∧ i = .int .i64 ((a + q : Nat) : Int)) (fun _ i => a + n - (intOf i).toNat)
  case atStart => exact ⟨0, 0, rfl, by omega, by omega, rfl, rfl⟩
  case round =>
    obtain ⟨q, u, HU, hq, hu, rfl, rfl⟩ := hrel
    by_cases hlt : q < n
    · have hix := sf_idx' s (a + q) (by omega)
      have hbb := (sf s (a + q)).toNat_lt
      have hd : (((a + q : Nat) : Int) < (a : Int) + (n : Int)) := by omega
      have hlen : ((a + q : Nat) : Int) < (s.size : Int) := by omega
      have hu2 : u * 256 + (sf s (a + q)).toNat < 4294967296 := by
        have h1 := valF_lt (sf s) a (q + 1)
        have h2 : 256 ^ (q + 1) ≤ 256 ^ 4 := Nat.pow_le_pow_right (by omega) (by omega)
        have h3 : (256 : Nat) ^ 4 = 4294967296 := rfl
        have h4 : valF (sf s) a (q + 1) = u * 256 + (sf s (a + q)).toNat := by rw [HU.out]; rfl
        omega
      have HQ : Hid (u * 256 + (sf s (a + q)).toNat = valF (sf s) a (q + 1)) := by show _ = _; rw [HU.out]; rfl
      go_wp2
      go_round
      case rel => exact ⟨q + 1, u * 256 + (sf s (a + q)).toNat, HQ, by omega, hu2, by go_num, by go_num⟩
      case measure => simp [intOf]; omega
    · have hqn : q = n := by omega
      subst hqn
      go_wp2
      go_ret
      exact ⟨by rw [← HU.out]; rfl, rfl⟩
end Go.Proofs.YtgalgjmhdbncbabGreat
namespace Go.Proofs.YtgalgjmhdbncbabGreat
open Go.RowKit
attribute [local go_sem ↓] Go.wp_at_zero Go.wp_at_succ

theorem num_zero (n j : Nat) : sf (numT 0 n) j = 0 := by
  by_cases h : j < n
  · have : sf (numT 0 n) j = numF 0 n j := sf_str _ _ _ h
    rw [this]; unfold numF; simp
  · rw [sf_past _ _ (by rw [numT_size]; omega)]
theorem E_zero (key : ByteArray) (hk : KeyLen key.size) (w : World) : Calls Tryz.prog 82 #[.string key, .string (numT 0 16)] w fun e w' => e = .returned (.string (str 16 (hK key))) ∧ Below w.heap.size w w' := by
  have h := E_ref key (numT 0 16) hk (numT_size _ _) w
  have e : sf (numT 0 16) = fun _ => 0 := funext fun j => num_zero 16 j
  rw [e] at h
  exact h
theorem E_str (key : ByteArray) (hk : KeyLen key.size) (f : Nat → UInt8) (w : World) : Calls Tryz.prog 82 #[.string key, .string (str 16 f)] w fun e w' => e = .returned (.string (str 16 (aesF (sf key) f key.size))) ∧ Below w.heap.size w w' := by
  have h := E_ref key (str 16 f) hk (str_size _ _) w
  have e : str 16 (aesF (sf key) (sf (str 16 f)) key.size) = str 16 (aesF (sf key) f key.size) := (aes_str _ _ _ _).2 (str_congr fun j hj => sf_str 16 f j hj)
  rw [e] at h
  exact h
theorem number_int (v n : Nat) (x y : Int) (hx : x = v) (hy : y = n) (hv : v < 9223372036854775808) (hn : n ≤ 1000) (w : World) : Calls Tryz.prog 72 #[.int .i64 x, .int .i64 y] w fun e w' => e = .returned (.string (numT v n)) ∧ Below w.heap.size w w' := by
  subst hx hy
  exact number_ref v n hv hn w

set_option maxRecDepth 100000 in
set_option maxHeartbeats 1000000 in
theorem first_ref (key n : ByteArray) (hk : KeyLen key.size) (hn : n.size ≤ 300) (w : World) :
    Calls Tryz.prog 87 #[.string key, .string n] w fun e w' => e = .returned (.string (str 16 (firstF key n))) ∧ Below w.heap.size w w' := by
  have HK : Hid _ := hk
  clear hk
  by_cases h : n.size = 12
  · have hd : ((n.size : Int) == 12) = true := by rw [h]; rfl
    have hz := numT_size 1 4
    have HE : Hid (n ++ numT 1 4 = str 16 (firstF key n)) := by
      show _ = _
      unfold firstF
      rw [if_pos h, str_sf _ _ (by rw [ByteArray.size_append, h, hz])]
    clear h
    go_enter Tryz.func87, Tryz.ntmps87
    go_wp2_with fail
    refine (number_int 1 4 _ _ rfl rfl (by omega) (by omega) _).mono ?_
    rintro e w1 ⟨rfl, b1⟩
    go_wp2
    go_ret
    exact ⟨by rw [← HE.out]; rfl, b1⟩
  · have hd : ((n.size : Int) == 12) = false := by rw [beq_eq_false_iff_ne]; omega
    have z1 := padT_size n
    have z2 := up16_up n.size
    have z3 := numT_size 0 8
    have z4 := numT_size (8 * n.size) 8
    have zz := nonceT_size n
    have zm := up16_mod n.size
    have HE : Hid (hashN (hK key) (sf (nonceT n)) ((nonceT n).size / 16) = firstF key n) := by
      show _ = _
      unfold firstF
      rw [if_neg h]
    have HT : Hid (padT n ++ numT 0 8 ++ numT (8 * n.size) 8 = nonceT n) := rfl
    have z5 : (padT n ++ numT 0 8).size = up16 n.size + 8 := by rw [ByteArray.size_append, z1, z3]
    clear h
    go_enter Tryz.func87, Tryz.ntmps87
    go_wp2_with fail
    refine (number_int 0 16 _ _ rfl rfl (by omega) (by omega) _).mono ?_
    rintro e w1 ⟨rfl, b1⟩
    go_wp2_with fail
    refine (E_zero key HK.out _).mono ?_
    rintro e w2 ⟨rfl, b2⟩
    go_wp2_with fail
    refine (padded_ref n (by omega) _).mono ?_
    rintro e w3 ⟨rfl, hw⟩
    subst hw
    go_wp2_with fail
    refine (number_int 0 8 _ _ rfl rfl (by omega) (by omega) _).mono ?_
    rintro e w4 ⟨rfl, b4⟩
    go_wp2_with fail
    refine (number_int (8 * n.size) 8 _ _ (by omega) rfl (by omega) (by omega) _).mono ?_
    rintro e w5 ⟨rfl, b5⟩
    go_wp2_with fail
    rw [HT.out]
    refine (rhash_str (hK key) (nonceT n) (by unfold maxLen; omega) (by omega) _).mono ?_
    rintro e w6 ⟨rfl, b6⟩
    rw [HE.out]
    go_wp2
    go_ret
    have y1 := b1.size
    have y2 := b2.size
    have y4 := b4.size
    have y5 := b5.size
    exact ⟨rfl, (((b1.trans (b2.mono (by omega))).trans (b4.mono (by omega))).trans (b5.mono (by omega))).trans (b6.mono (by omega))⟩

set_option maxRecDepth 100000 in
set_option maxHeartbeats 1000000 in
theorem tag_ref (key m b : ByteArray) (J : Nat → UInt8) (hk : KeyLen key.size) (hm : m.size ≤ 300) (hb : b.size ≤ 300) (w : World) :
    Calls Tryz.prog 90 #[.string key, .string (str 16 J), .string m, .string b] w fun e w' => e = .returned (.string (str 16 (tagF key J m b))) ∧ Below w.heap.size w w' := by
  have HK : Hid _ := hk
  have z1 := padT_size m
  have z2 := up16_up m.size
  have z3 := padT_size b
  have z4 := up16_up b.size
  have z5 := numT_size (8 * m.size) 8
  have z6 := numT_size (8 * b.size) 8
  have HZ1 : Hid ((tagT m b).size ≤ maxLen) := by show _ ≤ _; rw [tagT_size]; unfold maxLen; omega
  have HZ2 : Hid ((tagT m b).size % 16 = 0) := by show _ = _; rw [tagT_size]; have := up16_mod m.size; have := up16_mod b.size; omega
  have z7 : (padT m ++ padT b).size = up16 m.size + up16 b.size := by rw [ByteArray.size_append, z1, z3]
  have z8 : (padT m ++ padT b ++ numT (8 * m.size) 8).size = up16 m.size + up16 b.size + 8 := by rw [ByteArray.size_append, z7, z5]
  have HT : Hid (padT m ++ padT b ++ numT (8 * m.size) 8 ++ numT (8 * b.size) 8 = tagT m b) := rfl
  clear hk
  go_enter Tryz.func90, Tryz.ntmps90
  go_wp2_with fail
  refine (number_int 0 16 _ _ rfl rfl (by omega) (by omega) _).mono ?_
  rintro e w1 ⟨rfl, b1⟩
  go_wp2_with fail
  refine (E_zero key HK.out _).mono ?_
  rintro e w2 ⟨rfl, b2⟩
  go_wp2_with fail
  refine (padded_ref m (by omega) _).mono ?_
  rintro e w3 ⟨rfl, hw⟩
  subst hw
  go_wp2_with fail
  refine (padded_ref b (by omega) _).mono ?_
  rintro e w3 ⟨rfl, hw⟩
  subst hw
  go_wp2_with fail
  refine (number_int (8 * m.size) 8 _ _ (by omega) rfl (by omega) (by omega) _).mono ?_
  rintro e w4 ⟨rfl, b4⟩
  go_wp2_with fail
  refine (number_int (8 * b.size) 8 _ _ (by omega) rfl (by omega) (by omega) _).mono ?_
  rintro e w5 ⟨rfl, b5⟩
  go_wp2_with fail
  rw [HT.out]
  refine (rhash_str (hK key) (tagT m b) HZ1.out HZ2.out _).mono ?_
  rintro e w6 ⟨rfl, b6⟩
  go_wp2_with fail
  refine (E_str key HK.out J _).mono ?_
  rintro e w7 ⟨rfl, b7⟩
  go_wp2_with fail
  refine (rxor_ref 16 _ _ (by omega) _).mono ?_
  rintro e w8 ⟨rfl, b8⟩
  go_wp2
  go_ret
  have y1 := b1.size
  have y2 := b2.size
  have y4 := b4.size
  have y5 := b5.size
  have y6 := b6.size
  have y7 := b7.size
  exact ⟨rfl, (((((b1.trans (b2.mono (by omega))).trans (b4.mono (by omega))).trans (b5.mono (by omega))).trans (b6.mono (by omega))).trans (b7.mono (by omega))).trans (b8.mono (by omega))⟩

theorem str12 (J : Nat → UInt8) : (str 16 J).extract 0 12 = str 12 J := by
  apply bytes_ext
  · rw [cut_size _ _ _ (by rw [str_size]; omega), str_size]
  · intro j hj
    rw [cut_size _ _ _ (by rw [str_size]; omega)] at hj
    rw [sf_cut _ _ _ _ (by rw [str_size]; omega) (by omega), sf_str _ _ _ (by omega), sf_str _ _ _ (by omega), Nat.zero_add]
theorem ctr_cat (J : Nat → UInt8) (i C : Nat) (hC : C = (valF J 12 4 + i) % 4294967296) : str 12 J ++ numT C 4 = str 16 (ctrF J i) := by
  apply bytes_ext
  · rw [ByteArray.size_append, str_size, str_size, numT_size]
  · intro j hj
    rw [ByteArray.size_append, str_size, numT_size] at hj
    rw [sf_append, str_size, sf_str 16 _ j (by omega)]
    unfold ctrF
    by_cases h : j < 12
    · rw [if_pos h, if_pos h, sf_str _ _ _ h]
    · rw [if_neg h, if_neg h, hC]
      exact sf_str _ _ _ (by omega)
theorem stream_cat (key : ByteArray) (J : Nat → UInt8) (q : Nat) : str (16 * q) (streamF key J) ++ str 16 (aesF (sf key) (ctrF J (q + 1)) key.size) = str (16 * (q + 1)) (streamF key J) := by
  apply bytes_ext
  · rw [ByteArray.size_append, str_size, str_size, str_size]; omega
  · intro j hj
    rw [ByteArray.size_append, str_size, str_size] at hj
    rw [sf_append, str_size, sf_str (16 * (q + 1)) _ j (by omega)]
    by_cases h : j < 16 * q
    · rw [if_pos h, sf_str _ _ _ h]
    · rw [if_neg h, sf_str _ _ _ (by omega)]
      unfold streamF
      rw [show j / 16 = q by omega, show j % 16 = j - 16 * q by omega]
theorem str_cut' (n l : Nat) (f : Nat → UInt8) (h : l ≤ n) : (str n f).extract 0 l = str l f := by
  apply bytes_ext
  · rw [cut_size _ _ _ (by rw [str_size]; exact h), str_size]; omega
  · intro j hj
    rw [cut_size _ _ _ (by rw [str_size]; exact h)] at hj
    rw [sf_cut _ _ _ _ (by rw [str_size]; exact h) (by omega), sf_str _ _ _ (by omega), sf_str _ _ _ (by omega), Nat.zero_add]
theorem value_j (J : Nat → UInt8) (w : World) : Calls Tryz.prog 94 #[.string (str 16 J), .int .i64 12, .int .i64 4] w fun e w' => e = .returned (.int .i64 (valF J 12 4)) ∧ w' = w := by
  have h := value_ref (str 16 J) 12 4 (by rw [str_size]; omega) (by omega) (by omega) w
  rw [valF_congr (f := sf (str 16 J)) (g := J) (a := 12) 4 (fun j hj => sf_str _ _ _ (by omega))] at h
  exact h
set_option maxRecDepth 100000 in
set_option maxHeartbeats 1000000 in
theorem stream_ref (key : ByteArray) (J : Nat → UInt8) (n : Nat) (hk : KeyLen key.size) (hn : n ≤ 1000) (w : World) :
    Calls Tryz.prog 88 #[.string key, .string (str 16 J), .int .i64 n] w fun e w' => e = .returned (.string (str n (streamF key J))) ∧ Below w.heap.size w w' := by
  have HK : Hid _ := hk
  have hV := valF_lt J 12 4
  have h4 : (256 : Nat) ^ 4 = 4294967296 := rfl
  rw [h4] at hV
  have z16 := str_size 16 J
  have e12 := str12 J
  have z12 := str_size 12 J
  clear hk h4
  go_enter Tryz.func88, Tryz.ntmps88
  go_wp2_with fail
  refine (value_j J _).mono ?_
  rintro e w1 ⟨rfl, hw⟩
  subst hw
  generalize hv : valF J 12 4 = V at *
  have HV : Hid _ := hv
  clear hv
  go_wp2_with fail
  go_loopw [7, 8, 9] (fun s c _ wr => ∃ q L C : Nat, Hid (L = 16 * q) ∧ L < n + 16 ∧ Hid (C = (V + q) % 4294967296) ∧ C < 4294967296 ∧ s = .string (str L (streamF key J)) ∧ c = .int .i64 C ∧ Below w1.heap.size w1 wr) (fun s _ _ _ => n - strLen s)
  case atStart => exact ⟨0, 0, V, rfl, by omega, by show V = _; omega, hV, rfl, rfl, Below.refl _ _⟩
  case round =>
    obtain ⟨q, L, C, HL, hL, HC, hC, rfl, rfl, hB⟩ := hrel
    have zL := str_size L (streamF key J)
    by_cases hlt : L < n
    · obtain ⟨D, hD⟩ : ∃ D, (C + 1) % 4294967296 = D := ⟨_, rfl⟩
      have hDi : ((C : Int) + 1) % 4294967296 = (D : Int) := by omega
      have hD2 : D < 4294967296 := by omega
      have HD : Hid (D = (V + (q + 1)) % 4294967296) := by show D = _; rw [← hD, HC.out]; omega
      have zD := numT_size D 4
      have HT : Hid (str 12 J ++ numT D 4 = str 16 (ctrF J (q + 1))) := ctr_cat J (q + 1) D (by rw [HV.out]; exact HD.out)
      have HN : Hid (str L (streamF key J) ++ str 16 (aesF (sf key) (ctrF J (q + 1)) key.size) = str (L + 16) (streamF key J)) := by
        show _ = _
        rw [HL.out]
        exact stream_cat key J q
      have zE := str_size 16 (aesF (sf key) (ctrF J (q + 1)) key.size)
      have HL2 : Hid (L + 16 = 16 * (q + 1)) := by show _ = _; rw [HL.out]; omega
      clear hD HL HC
      go_wp2_with fail
      go_region_with (first
        | (go_at_call 72; refine (number_int D 4 _ _ rfl rfl (by omega) (by omega) _).mono ?_; rintro e w2 ⟨rfl, b2⟩)
        | (go_at_call 82; rw [HT.out]; refine (E_str key HK.out (ctrF J (q + 1)) _).mono ?_; rintro e w3 ⟨rfl, b3⟩))
      all_goals
        have B3 := (hB.drew.trans (b2.mono hB.size)).trans (b3.mono (Nat.le_trans hB.size b2.size))
        clear b2 b3
        go_wp2
        rw [HN.out]
        go_roundw
        case rel => exact ⟨q + 1, L + 16, D, HL2, by omega, HD, hD2, rfl, rfl, B3⟩
        case measure => simp only [strLen]; rw [str_size]; show n - (L + 16) < n - strLen (.string (str L (streamF key J))); simp only [strLen]; rw [str_size]; omega
    · have HE : Hid _ := str_cut' L n (streamF key J) (by omega)
      have hni : (n : Int) ≤ (L : Int) := by omega
      go_wp2
      go_ret
      exact ⟨by rw [← HE.out]; rfl, hB⟩
end Go.Proofs.YtgalgjmhdbncbabGreat
namespace Go.Proofs.YtgalgjmhdbncbabGreat
open Go.RowKit
attribute [local go_sem ↓] Go.wp_at_zero Go.wp_at_succ

structure SR (w0 w : World) (n0 : Nat) (a i : Int) (n b t : ByteArray) : Prop where
  rc : w.heap[n0]? = some (.cells (recA a i n b t) 35 (0, 0))
  l : n0 < w.heap.size
  bl : Below n0 w0 w
theorem SR.keep {w0 w w1 : World} {n0 : Nat} {a i : Int} {n b t : ByteArray} (h : SR w0 w n0 a i n b t) (hb : Below w.heap.size w w1) : SR w0 w1 n0 a i n b t :=
  ⟨by rw [hb.block n0 h.l]; exact h.rc, Nat.lt_of_lt_of_le h.l hb.size, h.bl.trans (hb.mono (Nat.le_of_lt h.l))⟩
theorem SR.drew {w0 w : World} {n0 : Nat} {a i : Int} {n b t : ByteArray} (h : SR w0 w n0 a i n b t) : SR w0 w.drew n0 a i n b t := ⟨h.rc, h.l, h.bl.drew⟩
theorem SR.cell {w0 w : World} {n0 : Nat} {a i : Int} {n b t : ByteArray} (h : SR w0 w n0 a i n b t) :
    w.cell? ⟨n0, 0, none⟩ = some (.int .i64 a) ∧ w.cell? ⟨n0, 1, none⟩ = some (.int .i64 i) ∧ w.cell? ⟨n0, 2, none⟩ = some (.string n) ∧ w.cell? ⟨n0, 3, none⟩ = some (.string b) ∧ w.cell? ⟨n0, 4, none⟩ = some (.string t) := by
  refine ⟨?_, ?_, ?_, ?_, ?_⟩
  · rw [cell_of_row _ _ 0 _ _ _ h.rc]; rfl
  · rw [cell_of_row _ _ 1 _ _ _ h.rc]; rfl
  · rw [cell_of_row _ _ 2 _ _ _ h.rc]; rfl
  · rw [cell_of_row _ _ 3 _ _ _ h.rc]; rfl
  · rw [cell_of_row _ _ 4 _ _ _ h.rc]; rfl
def markC : ByteArray := ⟨#[99, 103]⟩
set_option maxRecDepth 100000 in
set_option maxHeartbeats 4000000 in
theorem refEncode_yes (A I : Nat) (n b t : ByteArray) (hA1 : 1 ≤ A) (hA3 : A ≤ 3) (hI : I ≤ 65535) (hn : n.size = 12) (hb : b.size ≤ 200) (ht : t.size = 16) (w : World) :
    Calls Tryz.prog 46 #[recV A I n b t] w fun e w' => e = .returned (.tuple #[.string (encT A I n b t), .int .i64 0]) ∧ Below w.heap.size w w' := by
  have HE : Hid (markC ++ numT 1 1 ++ numT A 1 ++ numT I 2 ++ n ++ numT b.size 2 ++ b ++ t = encT A I n b t) := encT_cat A I n b t hn ht
  have c3 : ((n.size : Int) != 12) = false := by rw [hn]; rfl
  have c5 : ((t.size : Int) != 16) = false := by rw [ht]; rfl
  have hn12 : n.size ≤ 12 := by omega
  have ht16 : t.size ≤ 16 := by omega
  have z1 := numT_size 1 1
  have z2 := numT_size A 1
  have z3 := numT_size I 2
  have z4 := numT_size b.size 2
  clear hn ht
  unfold recV
  go_enter Tryz.func46, Tryz.ntmps46
  go_wp2_with fail
  have S0 : SR w (w.alloc (.cells (recA A I n b t) 35)) w.heap.size A I n b t := ⟨heap_of_new _ _ _ rfl, by simp, (Below.refl _ w).alloc (Nat.le_refl _) _⟩
  refine wp_region_held_drew (S := fun W => SR w W w.heap.size A I n b t) (by kernel_rfl) S0.drew (fun hHeld => ?_)
  refine tp 2 _ ?r1
  refine tk 3 ?v2 ?y2 ?r2
  case y2 => (intro W hW; obtain ⟨d0, d1, d2, d3, d4⟩ := SR.cell hW; go_simp; try with_reducible rfl)
  refine tp 6 _ ?r3
  refine tk 7 ?v4 ?y4 ?r4
  case y4 => (intro W hW; obtain ⟨d0, d1, d2, d3, d4⟩ := SR.cell hW; go_simp; try with_reducible rfl)
  refine tp 10 _ ?r5
  refine tk 11 ?v6 ?y6 ?r6
  case y6 => (intro W hW; obtain ⟨d0, d1, d2, d3, d4⟩ := SR.cell hW; go_simp; try with_reducible rfl)
  refine tp 13 _ ?r7
  refine tk 14 ?v8 ?y8 ?r8
  case y8 => (intro W hW; obtain ⟨d0, d1, d2, d3, d4⟩ := SR.cell hW; go_simp; try with_reducible rfl)
  refine tp 15 _ ?r9
  refine tp 18 _ ?r10
  refine tk 19 ?v11 ?y11 ?r11
  case y11 => (intro W hW; obtain ⟨d0, d1, d2, d3, d4⟩ := SR.cell hW; go_simp; try with_reducible rfl)
  refine tp 21 _ ?r12
  refine tk 22 ?v13 ?y13 ?r13
  case y13 => (intro W hW; obtain ⟨d0, d1, d2, d3, d4⟩ := SR.cell hW; go_simp; try with_reducible rfl)
  refine wpAnyH_ready (rs := [0]) (by kernel_rfl) (by simp) ?_
  refine AllReadyH.cons rfl (fun K hK => ?_) AllReadyH.nil
  go_simp
  refine (number_int 1 1 _ _ rfl rfl (by omega) (by omega) _).mono ?_
  rintro e wa ⟨rfl, ba⟩
  have S2 := SR.keep hHeld ba
  clear ba hHeld
  go_wp2_with fail
  refine hK.out _ _ S2 (fun hHeld => ?_)
  clear hK K
  clear S2
  refine tk 1 ?v14 ?y14 ?r14
  case y14 => (intro W hW; go_simp; first | (with_reducible rfl) | rw [if_neg (by omega)])
  refine wpAnyH_ready (rs := [4]) (by kernel_rfl) (by simp) ?_
  refine AllReadyH.cons rfl (fun K hK => ?_) AllReadyH.nil
  go_simp
  refine (number_int A 1 _ _ rfl rfl (by omega) (by omega) _).mono ?_
  rintro e wa ⟨rfl, ba⟩
  have S2 := SR.keep hHeld ba
  clear ba hHeld
  go_wp2_with fail
  refine hK.out _ _ S2 (fun hHeld => ?_)
  clear hK K
  clear S2
  refine tk 5 ?v15 ?y15 ?r15
  case y15 => (intro W hW; go_simp; first | (with_reducible rfl) | rw [if_neg (by omega)])
  refine wpAnyH_ready (rs := [8]) (by kernel_rfl) (by simp) ?_
  refine AllReadyH.cons rfl (fun K hK => ?_) AllReadyH.nil
  go_simp
  refine (number_int I 2 _ _ rfl rfl (by omega) (by omega) _).mono ?_
  rintro e wa ⟨rfl, ba⟩
  have S2 := SR.keep hHeld ba
  clear ba hHeld
  go_wp2_with fail
  refine hK.out _ _ S2 (fun hHeld => ?_)
  clear hK K
  clear S2
  refine tk 9 ?v16 ?y16 ?r16
  case y16 => (intro W hW; go_simp; first | (with_reducible rfl) | rw [if_neg (by omega)])
  refine tk 12 ?v17 ?y17 ?r17
  case y17 => (intro W hW; go_simp; first | (with_reducible rfl) | rw [if_neg (by omega)])
  refine wpAnyH_ready (rs := [16]) (by kernel_rfl) (by simp) ?_
  refine AllReadyH.cons rfl (fun K hK => ?_) AllReadyH.nil
  go_simp
  refine (number_int b.size 2 _ _ rfl rfl (by omega) (by omega) _).mono ?_
  rintro e wa ⟨rfl, ba⟩
  have S2 := SR.keep hHeld ba
  clear ba hHeld
  go_wp2_with fail
  refine hK.out _ _ S2 (fun hHeld => ?_)
  clear hK K
  clear S2
  refine tk 17 ?v18 ?y18 ?r18
  case y18 => (intro W hW; go_simp; first | (with_reducible rfl) | rw [if_neg (by omega)])
  refine tk 20 ?v19 ?y19 ?r19
  case y19 => (intro W hW; go_simp; first | (with_reducible rfl) | rw [if_neg (by omega)])
  refine tk 23 ?v20 ?y20 ?r20
  case y20 => (intro W hW; go_simp; first | (with_reducible rfl) | rw [if_neg (by omega)])
  refine tp 24 _ ?r21
  refine tp 25 _ ?r22
  refine wpAnyH_done (by kernel_rfl) ?_ _
  go_wp2
  go_ret2
  exact ⟨by rw [← HE.out]; rfl, SR.bl hHeld⟩
end Go.Proofs.YtgalgjmhdbncbabGreat
