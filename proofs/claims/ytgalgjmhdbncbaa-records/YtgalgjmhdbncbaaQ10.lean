import Derived.Test.YtgalgjmhdbncbaaQ9
import Derived.Test.YtgalgjmhdbncbaaQ8
import Derived.Test.YtgalgjmhdbncbaaR8
import Derived.Deep.QuietTactic
import Derived.BigQuiet
namespace Go.Proofs.Ytgalgjmhdbncbaa
open Go.RowKit
attribute [local go_sem ↓] Go.wp_at_zero Go.wp_at_succ

set_option maxRecDepth 100000 in
set_option maxHeartbeats 2000000 in
theorem refEncode_no (a i : Int) (n b t : ByteArray) (h : ¬ RecOk a i n b t) (hb : b.size ≤ maxLen) (w : World) :
    Calls Try.prog 51 #[recV a i n b t] w fun e w' => e = .returned (.tuple #[.string ⟨#[]⟩, .int .i64 1]) ∧ Below w.heap.size w w' := by
  unfold maxLen at hb
  unfold RecOk at h
  unfold recV
  by_cases h0 : a < 1
  case pos =>
    clear h
    go_enter Try.func51, Try.ntmps51
    go_wp2
    go_ret2
    exact ⟨rfl, (Below.refl _ _).alloc (Nat.le_refl _) _⟩
  by_cases h0' : 3 < a
  case pos =>
    clear h
    go_enter Try.func51, Try.ntmps51
    go_wp2
    go_ret2
    exact ⟨rfl, (Below.refl _ _).alloc (Nat.le_refl _) _⟩
  by_cases h1 : i < 0
  case pos =>
    clear h
    go_enter Try.func51, Try.ntmps51
    go_wp2
    go_ret2
    exact ⟨rfl, (Below.refl _ _).alloc (Nat.le_refl _) _⟩
  by_cases h2 : 65535 < i
  case pos =>
    clear h
    go_enter Try.func51, Try.ntmps51
    go_wp2
    go_ret2
    exact ⟨rfl, (Below.refl _ _).alloc (Nat.le_refl _) _⟩
  by_cases h3 : n.size = 12
  case neg =>
    have c3 : ((n.size : Int) != 12) = true := by rw [bne_iff_ne]; omega
    clear h h3
    go_enter Try.func51, Try.ntmps51
    go_wp2
    go_ret2
    exact ⟨rfl, (Below.refl _ _).alloc (Nat.le_refl _) _⟩
  have c3 : ((n.size : Int) != 12) = false := by rw [h3]; rfl
  by_cases h4 : 200 < b.size
  case pos =>
    clear h h3
    go_enter Try.func51, Try.ntmps51
    go_wp2
    go_ret2
    exact ⟨rfl, (Below.refl _ _).alloc (Nat.le_refl _) _⟩
  by_cases h5 : t.size = 16
  case neg =>
    have c5 : ((t.size : Int) != 16) = true := by rw [bne_iff_ne]; omega
    clear h h3 h5
    go_enter Try.func51, Try.ntmps51
    go_wp2
    go_ret2
    exact ⟨rfl, (Below.refl _ _).alloc (Nat.le_refl _) _⟩
  exact absurd ⟨⟨by omega, by omega⟩, by omega, by omega, h3, by omega, h5⟩ h
end Go.Proofs.Ytgalgjmhdbncbaa
