import Derived.Test.YtgalgjmhdbncbaaR9
import Derived.Test.YtgalgjmhdbncbaaR8
import Derived.Test.YtgalgjmhdbncbaaN6
namespace Go.Proofs.Ytgalgjmhdbncbaa
open Go.RowKit
attribute [local go_sem ↓] Go.wp_at_zero Go.wp_at_succ

/-! ### the reference's padded, Value, first, stream, tag -/
theorem pad_step (s x : ByteArray) (n : Nat) (hn : s.size ≤ n) (hx : x.size = 1) (h0 : sf x 0 = 0) : str n (sf s) ++ x = str (n + 1) (sf s) := by
  apply bytes_ext
  · rw [ByteArray.size_append, str_size, str_size, hx]
  · intro j hj
    rw [ByteArray.size_append, str_size, hx] at hj
    rw [sf_append, str_size, sf_str (n + 1) _ j (by omega)]
    by_cases h : j < n
    · rw [if_pos h, sf_str _ _ _ h]
    · rw [if_neg h, show j - n = 0 by omega, h0, sf_past _ _ (by omega)]
set_option maxRecDepth 100000 in
set_option maxHeartbeats 1000000 in
theorem padded_ref (s : ByteArray) (hs : s.size ≤ 1000) (w : World) : Calls Try.prog 69 #[.string s] w fun e w' => e = .returned (.string (padT s)) ∧ w' = w := by
  have hu := up16_up s.size
  have hm := up16_mod s.size
  have HS : Hid (str s.size (sf s) = s) := str_sf s _ rfl
  go_enter Try.func69, Try.ntmps69
  go_wp2
  go_loop [0] (fun t => ∃ L : Nat, s.size ≤ L ∧ L ≤ up16 s.size ∧ t = .string (str L (sf s))) (fun t => up16 s.size - strLen t)
  case atStart => exact ⟨s.size, Nat.le_refl _, up16_le s.size, by rw [HS.out]⟩
  case round =>
    obtain ⟨L, hL, hk, rfl⟩ := hrel
    have hz := str_size L (sf s)
    by_cases h : L % 16 = 0
    · have hd : ((L : Int) % 16 != 0) = false := by rw [bne_eq_false_iff_eq]; omega
      have he : L = up16 s.size := by unfold up16 at *; omega
      have HE : Hid (str L (sf s) = padT s) := by show _ = _; rw [he]; rfl
      clear he h hk hu hm
      go_wp2
      go_ret
      exact ⟨by rw [← HE.out]; rfl, rfl⟩
    · have hd : ((L : Int) % 16 != 0) = true := by rw [bne_iff_ne]; omega
      have hlt : L < up16 s.size := by
        rcases Nat.lt_or_ge L (up16 s.size) with h' | h'
        · exact h'
        · exfalso
          have : L = up16 s.size := by omega
          omega
      go_wp2
      go_round
      case rel => exact ⟨L + 1, by omega, by omega, congrArg Value.string (pad_step s _ L (by omega) rfl rfl)⟩
      case measure => simp only [strLen]; rw [ByteArray.size_append, hz]; show up16 s.size - (L + 1) < _; omega
set_option maxRecDepth 100000 in
set_option maxHeartbeats 1000000 in
theorem value_ref (s : ByteArray) (a n : Nat) (ha : a + n ≤ s.size) (hn : n ≤ 4) (ha2 : a ≤ 1000) (w : World) : Calls Try.prog 70 #[.string s, .int .i64 a, .int .i64 n] w fun e w' => e = .returned (.int .i64 (valF (sf s) a n)) ∧ w' = w := by
  go_enter Try.func70, Try.ntmps70
  go_wp2
  go_loop [7, 8] (fun x i => ∃ q u : Nat, Hid (u = valF (sf s) a q) ∧ q ≤ n ∧ u < 4294967296 ∧ x = .int .i64 u ∧ i = .int .i64 ((a + q : Nat) : Int)) (fun _ i => a + n - (intOf i).toNat)
  case atStart => exact ⟨0, 0, rfl, by omega, by omega, rfl, rfl⟩
  case round =>
    obtain ⟨q, u, HU, hq, hu, rfl, rfl⟩ := hrel
    by_cases hlt : q < n
    · have hix := sf_idx' s (a + q) (by omega)
      have hbb := (sf s (a + q)).toNat_lt
      have hd : (((a + q : Nat) : Int) < (a : Int) + (n : Int)) := by omega
      have hlen : ((a + q : Nat) : Int) < (s.size : Int) := by omega
      have hu2 : u * 256 + (sf s (a + q)).toNat < 4294967296 := by
        have h1 := valF_lt (sf s) a (q + 1)
        have h2 : 256 ^ (q + 1) ≤ 256 ^ 4 := Nat.pow_le_pow_right (by omega) (by omega)
        have h3 : (256 : Nat) ^ 4 = 4294967296 := rfl
        have h4 : valF (sf s) a (q + 1) = u * 256 + (sf s (a + q)).toNat := by rw [HU.out]; rfl
        omega
      have HQ : Hid (u * 256 + (sf s (a + q)).toNat = valF (sf s) a (q + 1)) := by show _ = _; rw [HU.out]; rfl
      go_wp2
      go_round
      case rel => exact ⟨q + 1, u * 256 + (sf s (a + q)).toNat, HQ, by omega, hu2, by go_num, by go_num⟩
      case measure => simp [intOf]; omega
    · have hqn : q = n := by omega
      subst hqn
      go_wp2
      go_ret
      exact ⟨by rw [← HU.out]; rfl, rfl⟩
end Go.Proofs.Ytgalgjmhdbncbaa
