import Derived.Test.YtgalgjmhdbncbaaR6
import Derived.Test.YtgalgjmhdbncbaaM6
namespace Go.Proofs.Ytgalgjmhdbncbaa
open Go.RowKit
attribute [local go_sem ↓] Go.wp_at_zero Go.wp_at_succ
attribute [local go_sem ↓] cv_wrap
attribute [local go_sem] run_cv cvRes_row cvRes_z blk_new blk_at blk_old blk_drew

theorem numF_step (v k : Nat) : str 1 (fun _ => UInt8.ofNat (v / 256 ^ k)) ++ str k (numF v k) = str (k + 1) (numF v (k + 1)) := by
  apply bytes_ext
  · rw [ByteArray.size_append, str_size, str_size, str_size]; omega
  · intro j hj
    rw [ByteArray.size_append, str_size, str_size] at hj
    rw [sf_append, str_size, sf_str (k + 1) _ j (by omega)]
    by_cases h : j < 1
    · rw [if_pos h, sf_str _ _ _ h]
      have : j = 0 := by omega
      subst this
      rfl
    · rw [if_neg h, sf_str _ _ _ (by omega)]
      unfold numF
      rw [show k + 1 - 1 - j = k - 1 - (j - 1) by omega]

set_option maxRecDepth 100000 in
set_option maxHeartbeats 1000000 in
/-- the reference's Number -/
theorem number_ref (v n : Nat) (hv : v < 9223372036854775808) (hn : n ≤ 1000) (w : World) : Calls Try.prog 68 #[.int .i64 v, .int .i64 n] w fun e w' => e = .returned (.string (numT v n)) ∧ Below w.heap.size w w' := by
  go_enter Try.func68, Try.ntmps68
  go_wp2
  go_loopw [0, 5, 6] (fun x t i wr => ∃ k u : Nat, Hid (u = v / 256 ^ k) ∧ u < 9223372036854775808 ∧ k ≤ n ∧ x = .int .i64 u ∧ i = .int .i64 k ∧ t = .string (str k (numF v k)) ∧ Below w.heap.size w wr) (fun _ _ i _ => n - (intOf i).toNat)
  case atStart => exact ⟨0, v, by show v = v / 256 ^ 0; simp, hv, by omega, rfl, rfl, rfl, Below.refl _ _⟩
  case round =>
    obtain ⟨k, u, HU, hu, hk, rfl, rfl, rfl, hB⟩ := hrel
    by_cases hlt : k < n
    · have hz := str_size k (numF v k)
      have hz1 := str_size 1 (fun _ => UInt8.ofNat u)
      have hcv : ((UInt8.ofNat u).toNat : Int) = (u : Int) % 256 := by
        rw [UInt8.toNat_ofNat']; omega
      have hc1 : ∀ w r, cvRes (some (.cells #[.int .u8 ((u : Int) % 256)] 5 (0, 0))) 1 w r = .ok (.string (str 1 fun _ => UInt8.ofNat u)) w := by
        rw [← hcv]
        exact fun w r => cvRes_row 1 5 (fun _ => UInt8.ofNat u) w r
      clear hcv
      have hst : str 1 (fun _ => UInt8.ofNat u) ++ str k (numF v k) = str (k + 1) (numF v (k + 1)) := by
        rw [HU.out]; exact numF_step v k
      have HQ : Hid (u / 256 = v / 256 ^ (k + 1)) := by
        show u / 256 = _
        rw [HU.out, Nat.div_div_eq_div_mul, Nat.pow_succ]
      have hq : u / 256 < 9223372036854775808 := by omega
      go_wp2
      go_roundw
      case rel => exact ⟨k + 1, u / 256, HQ, hq, by omega, by go_num, by go_num, rfl, hB.alloc hB.size _⟩
      case measure => simp [intOf]; omega
    · have h16 : k = n := by omega
      subst h16
      go_wp2
      go_ret
      exact ⟨rfl, hB⟩
end Go.Proofs.Ytgalgjmhdbncbaa
