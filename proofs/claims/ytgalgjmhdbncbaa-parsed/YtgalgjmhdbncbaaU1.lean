import Derived.Test.YtgalgjmhdbncbaaB1
namespace Go.Proofs.Ytgalgjmhdbncbaa
open Go.RowKit

/-! ### keep's upTo -/
def upV (s : ByteArray) (n : Nat) : ByteArray := if n < s.size then s.extract 0 n else s
theorem upV_le (s : ByteArray) (n : Nat) : (upV s n).size ≤ n := by
  unfold upV
  split
  · rw [cut_size _ _ _ (by omega)]; omega
  · omega
theorem upV_pos (s : ByteArray) (n : Nat) (hn : 1 ≤ n) (hs : 1 ≤ s.size) : 1 ≤ (upV s n).size := by
  unfold upV
  split
  · rw [cut_size _ _ _ (by omega)]; omega
  · omega
set_option maxHeartbeats 400000 in
theorem upVo_any (s : ByteArray) (n : Nat) (hn : n ≤ 1000) (w : World) : Calls Try.prog 27 #[.string s, .int .i64 n] w fun e w' => e = .returned (.string (upV s n)) ∧ w' = w := by
  by_cases h : n < s.size
  · have HU : Hid (upV s n = s.extract 0 n) := if_pos h
    go_enter Try.func27, Try.ntmps27
    go_wp2
    go_ret
    exact ⟨by rw [HU.out]; rfl, rfl⟩
  · have HU : Hid (upV s n = s) := if_neg h
    go_enter Try.func27, Try.ntmps27
    go_wp2
    go_ret
    exact ⟨by rw [HU.out]; rfl, rfl⟩

theorem upVo_more (s x : ByteArray) (n : Nat) (hn : n ≤ 1000) (h1 : 1 ≤ n) (hx : x.size = 1) (w : World) :
    Calls Try.prog 27 #[.string (s ++ x), .int .i64 n] w fun e w' => (∃ N : ByteArray, 1 ≤ N.size ∧ N.size ≤ n ∧ e = .returned (.string N)) ∧ w' = w := by
  refine (upVo_any (s ++ x) n hn w).mono ?_
  rintro e w' ⟨rfl, hw⟩
  exact ⟨⟨_, upV_pos _ _ h1 (by rw [ByteArray.size_append]; omega), upV_le _ _, rfl⟩, hw⟩
end Go.Proofs.Ytgalgjmhdbncbaa
