import Derived.Test.YtgalgjmhdbncbaaR5
import Derived.Test.YtgalgjmhdbncbaaR7
namespace Go.Proofs.Ytgalgjmhdbncbaa
open Go.RowKit

/-- the reference's Alg: what it answers -/
def algN (n : Nat) : Int := if n = 16 then 1 else if n = 24 then 2 else if n = 32 then 3 else 0

set_option maxRecDepth 100000 in
set_option maxHeartbeats 1000000 in
theorem rAlg_any (key : ByteArray) (w : World) : Calls Try.prog 43 #[.string key] w fun e w' => e = .returned (.int .i64 (algN key.size)) ∧ w' = w := by
  by_cases h16 : key.size = 16
  · have hA : algN key.size = 1 := by unfold algN; rw [if_pos h16]
    have b1 : ((key.size : Int) == 16) = true := by rw [beq_iff_eq]; omega
    rw [hA]
    clear hA h16
    go_enter Try.func43, Try.ntmps43
    go_wp2
    go_ret
    exact ⟨rfl, rfl⟩
  · have b1 : ((key.size : Int) == 16) = false := by rw [beq_eq_false_iff_ne]; omega
    by_cases h24 : key.size = 24
    · have hA : algN key.size = 2 := by unfold algN; rw [if_neg h16, if_pos h24]
      have b2 : ((key.size : Int) == 24) = true := by rw [beq_iff_eq]; omega
      rw [hA]
      clear hA h16 h24
      go_enter Try.func43, Try.ntmps43
      go_wp2
      go_ret
      exact ⟨rfl, rfl⟩
    · have b2 : ((key.size : Int) == 24) = false := by rw [beq_eq_false_iff_ne]; omega
      by_cases h32 : key.size = 32
      · have hA : algN key.size = 3 := by unfold algN; rw [if_neg h16, if_neg h24, if_pos h32]
        have b3 : ((key.size : Int) == 32) = true := by rw [beq_iff_eq]; omega
        rw [hA]
        clear hA h16 h24 h32
        go_enter Try.func43, Try.ntmps43
        go_wp2
        go_ret
        exact ⟨rfl, rfl⟩
      · have hA : algN key.size = 0 := by unfold algN; rw [if_neg h16, if_neg h24, if_neg h32]
        have b3 : ((key.size : Int) == 32) = false := by rw [beq_eq_false_iff_ne]; omega
        rw [hA]
        clear hA h16 h24 h32
        go_enter Try.func43, Try.ntmps43
        go_wp2
        go_ret
        exact ⟨rfl, rfl⟩
theorem rAlg_no (key : ByteArray) (h1 : key.size ≠ 16) (h2 : key.size ≠ 24) (h3 : key.size ≠ 32) (w : World) : Calls Try.prog 43 #[.string key] w fun e w' => e = .returned (.int .i64 0) ∧ w' = w := by
  have := rAlg_any key w
  rwa [show algN key.size = 0 by unfold algN; rw [if_neg h1, if_neg h2, if_neg h3]] at this
theorem rAlg_yes (key : ByteArray) (h : key.size = 16 ∨ key.size = 24 ∨ key.size = 32) (w : World) : Calls Try.prog 43 #[.string key] w fun e w' => (∃ n : Nat, (0 < n ∧ n < 4) ∧ e = .returned (.int .i64 n)) ∧ w' = w := by
  have := rAlg_any key w
  unfold algN at this
  rcases h with h | h | h
  · rw [if_pos h] at this
    exact this.mono fun e w' ⟨h1, h2⟩ => ⟨⟨1, by omega, h1⟩, h2⟩
  · rw [if_neg (by omega), if_pos h] at this
    exact this.mono fun e w' ⟨h1, h2⟩ => ⟨⟨2, by omega, h1⟩, h2⟩
  · rw [if_neg (by omega), if_neg (by omega), if_pos h] at this
    exact this.mono fun e w' ⟨h1, h2⟩ => ⟨⟨3, by omega, h1⟩, h2⟩

set_option maxRecDepth 100000 in
set_option maxHeartbeats 1000000 in
/-- the reference's Encrypt -/
theorem rEnc_key (key block : ByteArray) (h1 : key.size ≠ 16) (h2 : key.size ≠ 24) (h3 : key.size ≠ 32) (w : World) :
    Calls Try.prog 32 #[.string key, .string block] w fun e w' => e = .returned (.tuple #[.string ⟨#[]⟩, .int .i64 2]) ∧ w' = w := by
  have H1 : Hid _ := h1
  have H2 : Hid _ := h2
  have H3 : Hid _ := h3
  clear h1 h2 h3
  go_enter Try.func32, Try.ntmps32
  go_wp2_with fail
  refine (rAlg_no key H1 H2 H3 _).mono ?_
  rintro e w1 ⟨rfl, hw⟩
  subst hw
  go_wp2
  go_ret2
  exact ⟨rfl, rfl⟩
set_option maxRecDepth 100000 in
set_option maxHeartbeats 1000000 in
theorem rEnc_size (key block : ByteArray) (h : key.size = 16 ∨ key.size = 24 ∨ key.size = 32) (hb : block.size ≠ 16) (w : World) :
    Calls Try.prog 32 #[.string key, .string block] w fun e w' => e = .returned (.tuple #[.string ⟨#[]⟩, .int .i64 5]) ∧ w' = w := by
  have H : Hid _ := h
  have b1 : ((block.size : Int) != 16) = true := by rw [bne_iff_ne]; omega
  clear h hb
  go_enter Try.func32, Try.ntmps32
  go_wp2_with fail
  refine (rAlg_yes key H _).mono ?_
  rintro e w1 ⟨⟨n, ⟨hn1, hn2⟩, rfl⟩, hw⟩
  subst hw
  have b0 : ((n : Int) == 0) = false := by rw [beq_eq_false_iff_ne]; omega
  go_wp2
  go_ret2
  exact ⟨rfl, rfl⟩
set_option maxRecDepth 100000 in
set_option maxHeartbeats 1000000 in
theorem rEnc_ok (key block : ByteArray) (h : key.size = 16 ∨ key.size = 24 ∨ key.size = 32) (hb : block.size = 16) (w : World) :
    Calls Try.prog 32 #[.string key, .string block] w fun e w' => e = .returned (.tuple #[.string (str 16 (aesF (sf key) (sf block) key.size)), .int .i64 0]) ∧ Below w.heap.size w w' := by
  have H : Hid _ := h
  have HB : Hid _ := hb
  have b1 : ((block.size : Int) != 16) = false := by rw [bne_eq_false_iff_eq]; omega
  clear h hb
  go_enter Try.func32, Try.ntmps32
  go_wp2_with fail
  refine (rAlg_yes key H _).mono ?_
  rintro e w1 ⟨⟨n, ⟨hn1, hn2⟩, rfl⟩, hw⟩
  subst hw
  have b0 : ((n : Int) == 0) = false := by rw [beq_eq_false_iff_ne]; omega
  go_wp2_with fail
  refine (E_ref key block H HB _).mono ?_
  rintro e w2 ⟨rfl, hb2⟩
  go_wp2
  go_ret2
  exact ⟨rfl, hb2⟩
set_option maxRecDepth 100000 in
set_option maxHeartbeats 1000000 in
theorem num_any (n : Int) (w : World) : Calls Try.prog 34 #[.int .i64 n] w fun e w' => e = .returned (.int .i64 n) ∧ w' = w := by
  go_enter Try.func34, Try.ntmps34
  go_wp2
  go_ret
  exact ⟨rfl, rfl⟩

/-- both answer the same -/
theorem encBoth (key block : ByteArray) (hs : key.size ≤ maxLen) : ∃ (v : ByteArray) (n : Int),
    (∀ w, Calls Try.prog 17 #[.string key, .string block] w fun e w' => e = .returned (.tuple #[.string v, .int .i64 n]) ∧ Below w.heap.size w w') ∧
    (∀ w, Calls Try.prog 32 #[.string key, .string block] w fun e w' => e = .returned (.tuple #[.string v, .int .i64 n]) ∧ Below w.heap.size w w') := by
  by_cases h : key.size = 16 ∨ key.size = 24 ∨ key.size = 32
  · by_cases hb : block.size = 16
    · exact ⟨_, _, fun w => enc_ok key block hs h hb w, fun w => rEnc_ok key block h hb w⟩
    · exact ⟨_, _, fun w => enc_size key block hs h hb w, fun w => (rEnc_size key block h hb w).mono fun e w' ⟨h1, h2⟩ => ⟨h1, h2 ▸ Below.refl _ _⟩⟩
  · exact ⟨_, _, fun w => enc_key key block hs (fun e => h (.inl e)) (fun e => h (.inr (.inl e))) (fun e => h (.inr (.inr e))) w,
      fun w => (rEnc_key key block (fun e => h (.inl e)) (fun e => h (.inr (.inl e))) (fun e => h (.inr (.inr e))) w).mono fun e w' ⟨h1, h2⟩ => ⟨h1, h2 ▸ Below.refl _ _⟩⟩
theorem hashBoth (h s : ByteArray) (hs : s.size ≤ maxLen) : ∃ (v : ByteArray) (n : Int),
    (∀ w, Calls Try.prog 19 #[.string h, .string s] w fun e w' => e = .returned (.tuple #[.string v, .int .i64 n]) ∧ Below w.heap.size w w') ∧
    (∀ w, Calls Try.prog 33 #[.string h, .string s] w fun e w' => e = .returned (.tuple #[.string v, .int .i64 n]) ∧ Below w.heap.size w w') := by
  by_cases hh : h.size = 16
  · by_cases hn : s.size % 16 = 0
    · exact ⟨_, _, fun w => chash_ok h s w hh hs hn, fun w => rHash_ok h s hh hs hn w⟩
    · exact ⟨_, _, fun w => chash_size h s w hh hs hn, fun w => (rHash_size h s hh hs hn w).mono fun e w' ⟨h1, h2⟩ => ⟨h1, h2 ▸ Below.refl _ _⟩⟩
  · exact ⟨_, _, fun w => chash_key h s w hh, fun w => (rHash_key h s hh w).mono fun e w' ⟨h1, h2⟩ => ⟨h1, h2 ▸ Below.refl _ _⟩⟩
end Go.Proofs.Ytgalgjmhdbncbaa
