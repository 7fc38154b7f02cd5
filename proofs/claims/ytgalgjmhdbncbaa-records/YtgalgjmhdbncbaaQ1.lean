import Derived.Test.YtgalgjmhdbncbaaN7
import Derived.Test.YtgalgjmhdbncbaaM7
import Derived.BigRegion
namespace Go.Proofs.Ytgalgjmhdbncbaa
open Go.RowKit
attribute [local go_sem ↓] Go.wp_at_zero Go.wp_at_succ

/-! ### records: isAlg, right, length -/
set_option maxHeartbeats 400000 in
theorem sizes_no (a : Int) (h : ¬ (1 ≤ a ∧ a ≤ 3)) (w : World) : Calls Try.prog 56 #[.int .i64 a] w fun e w' => e = .returned (.tuple #[.int .i64 0, .int .i64 0]) ∧ w' = w := by
  have h1 : (a == 1) = false := by rw [beq_eq_false_iff_ne]; omega
  have h2 : (a == 2) = false := by rw [beq_eq_false_iff_ne]; omega
  have h3 : (a == 3) = false := by rw [beq_eq_false_iff_ne]; omega
  clear h
  go_enter Try.func56, Try.ntmps56
  go_wp2
  go_ret2
  exact ⟨rfl, rfl⟩
set_option maxHeartbeats 400000 in
theorem isAlg_any (a : Int) (w : World) : Calls Try.prog 89 #[.int .i64 a] w fun e w' => e = .returned (.bool (decide (1 ≤ a ∧ a ≤ 3))) ∧ w' = w := by
  by_cases h : 1 ≤ a ∧ a ≤ 3
  · rw [decide_eq_true h]
    obtain ⟨k, rfl⟩ : ∃ k : Nat, a = k := ⟨a.toNat, by omega⟩
    have h1 : 1 ≤ k := by omega
    have h2 : k ≤ 3 := by omega
    have hpos : decide ((0 : Int) < 8 + 8 * (k : Int)) = true := decide_eq_true (by omega)
    clear h
    go_enter Try.func89, Try.ntmps89
    go_wp2_with fail
    refine (sizes_any k h1 h2 _).mono ?_
    rintro e w1 ⟨rfl, hw⟩
    subst hw
    go_wp2
    go_ret
    exact ⟨rfl, rfl⟩
  · rw [decide_eq_false h]
    have H : Hid _ := h
    clear h
    go_enter Try.func89, Try.ntmps89
    go_wp2_with fail
    refine (sizes_no a H.out _).mono ?_
    rintro e w1 ⟨rfl, hw⟩
    subst hw
    go_wp2
    go_ret
    exact ⟨rfl, rfl⟩
set_option maxHeartbeats 400000 in
theorem length_any (n : Nat) (hn : n ≤ 100000) (w : World) : Calls Try.prog 90 #[.int .i64 n] w fun e w' => e = .returned (.int .i64 ((36 + n : Nat) : Int)) ∧ w' = w := by
  have HE : Hid ((((36 + n : Nat)) : Int) = 20 + (n : Int) + 16) := by show _ = _; omega
  go_enter Try.func90, Try.ntmps90
  go_wp2
  go_ret
  exact ⟨by rw [HE.out]; rfl, rfl⟩
/-- a record's value -/
def recV (a i : Int) (n b t : ByteArray) : Value := .agg #[.int .i64 a, .int .i64 i, .string n, .string b, .string t]
def RecOk (a i : Int) (n b t : ByteArray) : Prop := (1 ≤ a ∧ a ≤ 3) ∧ 0 ≤ i ∧ i ≤ 65535 ∧ n.size = 12 ∧ b.size ≤ 200 ∧ t.size = 16
set_option maxRecDepth 100000 in
set_option maxHeartbeats 1000000 in
theorem right_yes (a i : Int) (n b t : ByteArray) (h : RecOk a i n b t) (w : World) :
    Calls Try.prog 71 #[recV a i n b t] w fun e w' => e = .returned (.bool true) ∧ Below w.heap.size w w' := by
  obtain ⟨ha, h1, h2, h3, h4, h5⟩ := h
  have hd : decide (1 ≤ a ∧ a ≤ 3) = true := decide_eq_true ha
  have c3 : ((n.size : Int) == 12) = true := by rw [h3]; rfl
  have c5 : ((t.size : Int) == 16) = true := by rw [h5]; rfl
  unfold recV
  clear ha h3 h5
  go_enter Try.func71, Try.ntmps71
  go_wp2_with (go_at_call 89; refine (isAlg_any _ _).mono ?_; rintro e w1 ⟨rfl, hw⟩; rw [hw])
  go_ret
  exact ⟨rfl, (Below.refl _ _).alloc (Nat.le_refl _) _⟩
set_option maxRecDepth 100000 in
set_option maxHeartbeats 2000000 in
theorem right_no (a i : Int) (n b t : ByteArray) (h : ¬ RecOk a i n b t) (hb : b.size ≤ maxLen) (w : World) :
    Calls Try.prog 71 #[recV a i n b t] w fun e w' => e = .returned (.bool false) ∧ Below w.heap.size w w' := by
  unfold maxLen at hb
  unfold RecOk at h
  unfold recV
  by_cases h0 : 1 ≤ a ∧ a ≤ 3
  case neg =>
    have hd : decide (1 ≤ a ∧ a ≤ 3) = false := decide_eq_false h0
    clear h h0
    go_enter Try.func71, Try.ntmps71
    go_wp2_with (go_at_call 89; refine (isAlg_any _ _).mono ?_; rintro e w1 ⟨rfl, hw⟩; rw [hw])
    go_ret
    exact ⟨rfl, (Below.refl _ _).alloc (Nat.le_refl _) _⟩
  have hd : decide (1 ≤ a ∧ a ≤ 3) = true := decide_eq_true h0
  by_cases h1 : 0 ≤ i
  case neg =>
    clear h h0
    go_enter Try.func71, Try.ntmps71
    go_wp2_with (go_at_call 89; refine (isAlg_any _ _).mono ?_; rintro e w1 ⟨rfl, hw⟩; rw [hw])
    go_ret
    exact ⟨rfl, (Below.refl _ _).alloc (Nat.le_refl _) _⟩
  by_cases h2 : i ≤ 65535
  case neg =>
    clear h h0
    go_enter Try.func71, Try.ntmps71
    go_wp2_with (go_at_call 89; refine (isAlg_any _ _).mono ?_; rintro e w1 ⟨rfl, hw⟩; rw [hw])
    go_ret
    exact ⟨rfl, (Below.refl _ _).alloc (Nat.le_refl _) _⟩
  by_cases h3 : n.size = 12
  case neg =>
    have c3 : ((n.size : Int) == 12) = false := by rw [beq_eq_false_iff_ne]; omega
    clear h h0 h3
    go_enter Try.func71, Try.ntmps71
    go_wp2_with (go_at_call 89; refine (isAlg_any _ _).mono ?_; rintro e w1 ⟨rfl, hw⟩; rw [hw])
    go_ret
    exact ⟨rfl, (Below.refl _ _).alloc (Nat.le_refl _) _⟩
  have c3 : ((n.size : Int) == 12) = true := by rw [h3]; rfl
  by_cases h4 : b.size ≤ 200
  case neg =>
    clear h h0 h3
    go_enter Try.func71, Try.ntmps71
    go_wp2_with (go_at_call 89; refine (isAlg_any _ _).mono ?_; rintro e w1 ⟨rfl, hw⟩; rw [hw])
    go_ret
    exact ⟨rfl, (Below.refl _ _).alloc (Nat.le_refl _) _⟩
  by_cases h5 : t.size = 16
  case neg =>
    have c5 : ((t.size : Int) == 16) = false := by rw [beq_eq_false_iff_ne]; omega
    clear h h0 h3 h5
    go_enter Try.func71, Try.ntmps71
    go_wp2_with (go_at_call 89; refine (isAlg_any _ _).mono ?_; rintro e w1 ⟨rfl, hw⟩; rw [hw])
    go_ret
    exact ⟨rfl, (Below.refl _ _).alloc (Nat.le_refl _) _⟩
  exact absurd ⟨h0, h1, h2, h3, h4, h5⟩ h
end Go.Proofs.Ytgalgjmhdbncbaa
