import Derived.Test.YtgalgjmhdbncbaaQ3
namespace Go.Proofs.Ytgalgjmhdbncbaa
open Go.RowKit
attribute [local go_sem ↓] Go.wp_at_zero Go.wp_at_succ

set_option maxRecDepth 100000 in
set_option maxHeartbeats 1000000 in
theorem rencode_no (a i : Int) (n b t : ByteArray) (h : ¬ RecOk a i n b t) (hb : b.size ≤ maxLen) (w : World) :
    Calls Try.prog 49 #[recV a i n b t] w fun e w' => e = .returned (.tuple #[.string ⟨#[]⟩, .bool false]) ∧ Below w.heap.size w w' := by
  have HR : Hid _ := h
  have HB : Hid _ := hb
  clear h hb
  unfold recV
  go_enter Try.func49, Try.ntmps49
  go_wp2_with fail
  refine (right_no a i n b t HR.out HB.out _).mono ?_
  rintro e w1 ⟨rfl, b1⟩
  go_wp2
  go_ret2
  exact ⟨rfl, ((Below.refl _ w).alloc (Nat.le_refl _) _).trans (b1.mono (by simp))⟩
set_option maxRecDepth 100000 in
set_option maxHeartbeats 1000000 in
theorem encode_no (a i : Int) (n b t : ByteArray) (h : ¬ RecOk a i n b t) (hb : b.size ≤ maxLen) (w : World) :
    Calls Try.prog 29 #[recV a i n b t] w fun e w' => e = .returned (.tuple #[.string ⟨#[]⟩, .int .i64 1]) ∧ Below w.heap.size w w' := by
  have HR : Hid _ := h
  have HB : Hid _ := hb
  clear h hb
  unfold recV
  go_enter Try.func29, Try.ntmps29
  go_wp2_with fail
  refine (rencode_no a i n b t HR.out HB.out _).mono ?_
  rintro e w1 ⟨rfl, b1⟩
  go_wp2
  go_ret2
  exact ⟨rfl, ((Below.refl _ w).alloc (Nat.le_refl _) _).trans (b1.mono (by simp))⟩
set_option maxRecDepth 100000 in
set_option maxHeartbeats 1000000 in
theorem encode_yes (A I : Nat) (n b t : ByteArray) (hA1 : 1 ≤ A) (hA3 : A ≤ 3) (hI : I ≤ 65535) (hn : n.size = 12) (hb : b.size ≤ 200) (ht : t.size = 16) (w : World) :
    Calls Try.prog 29 #[recV A I n b t] w fun e w' => e = .returned (.tuple #[.string (encT A I n b t), .int .i64 0]) ∧ Below w.heap.size w w' := by
  have HN : Hid _ := hn
  have HT : Hid _ := ht
  clear hn ht
  unfold recV
  go_enter Try.func29, Try.ntmps29
  go_wp2_with fail
  refine (rencode_yes A I n b t hA1 hA3 hI HN.out hb HT.out _).mono ?_
  rintro e w1 ⟨rfl, b1⟩
  go_wp2
  go_ret2
  exact ⟨rfl, ((Below.refl _ w).alloc (Nat.le_refl _) _).trans (b1.mono (by simp))⟩

end Go.Proofs.Ytgalgjmhdbncbaa
