import Derived.Test.YtgalgjmhdbncbaaR6
namespace Go.Proofs.Ytgalgjmhdbncbaa
open Go.RowKit

set_option maxRecDepth 100000 in
set_option maxHeartbeats 1000000 in
theorem rhash_str (k : Nat → UInt8) (s : ByteArray) (hs : s.size ≤ maxLen) (hn : s.size % 16 = 0) (w : World) :
    Calls Try.prog 54 #[.string (str 16 k), .string s] w fun e w' => e = .returned (.string (str 16 (hashN k (sf s) (s.size / 16)))) ∧ Below w.heap.size w w' := by
  unfold maxLen at hs
  have HN : Hid _ := hn
  clear hn
  go_enter Try.func54, Try.ntmps54
  go_wp2_with fail
  refine (number0_ref _).mono ?_
  rintro e w1 ⟨rfl, b1⟩
  go_wp2_with fail
  go_loopw [5, 6] (fun y i wr => ∃ q A : Nat, Hid (A = 16 * q) ∧ A ≤ s.size ∧ i = .int .i64 A ∧ y = .string (str 16 (hashN k (sf s) q)) ∧ Below w.heap.size w wr) (fun _ i _ => s.size - (intOf i).toNat)
  case atStart => exact ⟨0, 0, rfl, by omega, rfl, rfl, b1⟩
  case round =>
    obtain ⟨q, A, HA, hA, rfl, rfl, hB⟩ := hrel
    by_cases hlt : A < s.size
    · have hA16 : A + 16 ≤ s.size := by
        have e1 := HA.out
        have e2 := HN.out
        omega
      have hsz : (s.size : Int) < 9223372036854775807 := by
        have e2 := HN.out
        omega
      have hex : s.extract A (A + 16) = str 16 (fun j => sf s (16 * q + j)) := by
        apply bytes_ext
        · rw [cut_size _ _ _ hA16, str_size]; omega
        · intro j hj
          rw [cut_size _ _ _ hA16] at hj
          rw [sf_cut _ _ _ _ hA16 (by omega), sf_str _ _ _ (by omega), HA.out]
      go_wp2_with fail
      refine (rxor_ref 16 _ _ (by omega) _).mono ?_
      rintro e w2 ⟨rfl, b2⟩
      go_wp2_with fail
      refine (product_str _ _ _).mono ?_
      rintro e w3 ⟨rfl, b3⟩
      go_wp2
      refine ⟨⟨q + 1, A + 16, by have := HA.out; show A + 16 = _; omega, hA16, by go_num, rfl, ?_⟩, by simp [intOf]; omega⟩
      exact (hB.trans (b2.mono hB.size)).trans (b3.mono (by have := hB.size; have := b2.size; omega))
    · have hAs : s.size / 16 = q := by
        have e1 := HA.out
        have e2 := HN.out
        omega
      have HQ : Hid _ := hAs
      clear hAs
      go_wp2
      go_ret
      exact ⟨by rw [HQ.out]; rfl, hB⟩
theorem rhash_ref (h s : ByteArray) (hh : h.size = 16) (hs : s.size ≤ maxLen) (hn : s.size % 16 = 0) (w : World) :
    Calls Try.prog 54 #[.string h, .string s] w fun e w' => e = .returned (.string (str 16 (hashN (sf h) (sf s) (s.size / 16)))) ∧ Below w.heap.size w w' := by
  have := rhash_str (sf h) s hs hn w
  rwa [str_sf h 16 hh] at this

set_option maxRecDepth 100000 in
set_option maxHeartbeats 1000000 in
/-- the reference's Hash -/
theorem rHash_key (h s : ByteArray) (hh : h.size ≠ 16) (w : World) : Calls Try.prog 33 #[.string h, .string s] w fun e w' => e = .returned (.tuple #[.string ⟨#[]⟩, .int .i64 2]) ∧ w' = w := by
  have hb : ((h.size : Int) != 16) = true := by rw [bne_iff_ne]; omega
  go_enter Try.func33, Try.ntmps33
  go_wp2
  go_ret2
  exact ⟨rfl, rfl⟩
set_option maxRecDepth 100000 in
set_option maxHeartbeats 1000000 in
theorem rHash_size (h s : ByteArray) (hh : h.size = 16) (hs : s.size ≤ maxLen) (hn : s.size % 16 ≠ 0) (w : World) : Calls Try.prog 33 #[.string h, .string s] w fun e w' => e = .returned (.tuple #[.string ⟨#[]⟩, .int .i64 5]) ∧ w' = w := by
  unfold maxLen at hs
  have hb : ((h.size : Int) != 16) = false := by rw [bne_eq_false_iff_eq]; omega
  have hm : (((s.size : Int) % 16) != 0) = true := by rw [bne_iff_ne]; omega
  clear hh
  go_enter Try.func33, Try.ntmps33
  go_wp2
  go_ret2
  exact ⟨rfl, rfl⟩
set_option maxRecDepth 100000 in
set_option maxHeartbeats 1000000 in
theorem rHash_ok (h s : ByteArray) (hh : h.size = 16) (hs : s.size ≤ maxLen) (hn : s.size % 16 = 0) (w : World) : Calls Try.prog 33 #[.string h, .string s] w fun e w' => e = .returned (.tuple #[.string (str 16 (hashN (sf h) (sf s) (s.size / 16))), .int .i64 0]) ∧ Below w.heap.size w w' := by
  have HS : Hid _ := hs
  have HH : Hid _ := hh
  have HN : Hid _ := hn
  have hb : ((h.size : Int) != 16) = false := by rw [bne_eq_false_iff_eq]; omega
  have hm : (((s.size : Int) % 16) != 0) = false := by rw [bne_eq_false_iff_eq]; omega
  unfold maxLen at hs
  clear hh hn
  go_enter Try.func33, Try.ntmps33
  go_wp2_with fail
  refine (rhash_ref h s HH HS HN _).mono ?_
  rintro e w1 ⟨rfl, b1⟩
  go_wp2
  go_ret2
  exact ⟨rfl, b1⟩
end Go.Proofs.Ytgalgjmhdbncbaa
