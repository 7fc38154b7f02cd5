import Derived.Test.YtgalgjmhdbncbaaQ3
namespace Go.Proofs.Ytgalgjmhdbncbaa
open Go.RowKit
attribute [local go_sem ↓] Go.wp_at_zero Go.wp_at_succ
attribute [local go_sem ↓] bs_wrap

/-! ### Parse: where a text is wrong -/
def goB (i : Nat) (b : UInt8) : Bool :=
  if i = 0 then ((b.toNat : Int) == 99) else if i = 1 then ((b.toNat : Int) == 103) else if i = 2 then ((b.toNat : Int) == 1) else if i = 3 then decide (1 ≤ (b.toNat : Int) ∧ (b.toNat : Int) ≤ 3)
  else if i = 18 then ((b.toNat : Int) == 0) else if i = 19 then decide ((b.toNat : Int) ≤ 200) else true
set_option maxRecDepth 100000 in
set_option maxHeartbeats 1000000 in
theorem goesOn_any (i : Nat) (hi : i < 20) (b : UInt8) (w : World) : Calls Try.prog 91 #[.int .i64 i, .int .u8 b.toNat] w fun e w' => e = .returned (.bool (goB i b)) ∧ w' = w := by
  have hb := b.toNat_lt
  rcases (by omega : i = 0 ∨ i = 1 ∨ i = 2 ∨ i = 3 ∨ i = 18 ∨ i = 19 ∨ (4 ≤ i ∧ i < 18)) with rfl | rfl | rfl | rfl | rfl | rfl | h
  · go_enter Try.func91, Try.ntmps91
    go_wp2
    go_ret
    exact ⟨rfl, rfl⟩
  · go_enter Try.func91, Try.ntmps91
    go_wp2
    go_ret
    exact ⟨rfl, rfl⟩
  · go_enter Try.func91, Try.ntmps91
    go_wp2
    go_ret
    exact ⟨rfl, rfl⟩
  · have HG : Hid ((decide (1 ≤ (b.toNat : Int)) && decide ((b.toNat : Int) ≤ 3)) = goB 3 b) := (Bool.decide_and _ _).symm
    go_enter Try.func91, Try.ntmps91
    go_wp2_with fail
    refine (isAlg_any _ _).mono ?_
    rintro e w1 ⟨rfl, hw⟩
    subst hw
    go_wp2
    go_ret
    exact ⟨by rw [← HG.out]; rfl, rfl⟩
  · go_enter Try.func91, Try.ntmps91
    go_wp2
    go_ret
    exact ⟨rfl, rfl⟩
  · go_enter Try.func91, Try.ntmps91
    go_wp2
    go_ret
    exact ⟨rfl, rfl⟩
  · have hg : goB i b = true := by
      unfold goB
      rw [if_neg (by omega), if_neg (by omega), if_neg (by omega), if_neg (by omega), if_neg (by omega), if_neg (by omega)]
    have h3 : ((i : Int) == 3) = false := by rw [beq_eq_false_iff_ne]; omega
    have h18 : ((i : Int) == 18) = false := by rw [beq_eq_false_iff_ne]; omega
    have h19 : ((i : Int) == 19) = false := by rw [beq_eq_false_iff_ne]; omega
    have h0 : ¬ ((i : Int) < 3) := by omega
    rw [hg]
    clear hg h hi
    go_enter Try.func91, Try.ntmps91
    go_wp2
    go_ret
    exact ⟨rfl, rfl⟩
theorem u8_eq (b : UInt8) (k : Nat) (hk : k < 256) : ((b.toNat : Int) == (k : Int)) = true ↔ b = UInt8.ofNat k := by
  rw [beq_iff_eq]
  constructor
  · intro h
    apply UInt8.toNat_inj.1
    rw [UInt8.toNat_ofNat']
    omega
  · intro h
    rw [h, UInt8.toNat_ofNat']
    omega
theorem go0 (b : UInt8) : goB 0 b = true ↔ b = 99 := u8_eq b 99 (by omega)
theorem go1 (b : UInt8) : goB 1 b = true ↔ b = 103 := u8_eq b 103 (by omega)
theorem go2 (b : UInt8) : goB 2 b = true ↔ b = 1 := u8_eq b 1 (by omega)
theorem go18 (b : UInt8) : goB 18 b = true ↔ b = 0 := u8_eq b 0 (by omega)
theorem go3 (b : UInt8) : goB 3 b = true ↔ 1 ≤ b.toNat ∧ b.toNat ≤ 3 := by
  show decide (1 ≤ (b.toNat : Int) ∧ (b.toNat : Int) ≤ 3) = true ↔ _
  rw [decide_eq_true_iff]
  omega
theorem go19 (b : UInt8) : goB 19 b = true ↔ b.toNat ≤ 200 := by
  show decide ((b.toNat : Int) ≤ 200) = true ↔ _
  rw [decide_eq_true_iff]
  omega
theorem goMid (i : Nat) (b : UInt8) (h : 4 ≤ i) (h2 : i ≠ 18) (h3 : i ≠ 19) : goB i b = true := by
  unfold goB
  rw [if_neg (by omega), if_neg (by omega), if_neg (by omega), if_neg (by omega), if_neg (by omega), if_neg (by omega)]
/-- the first wrong byte of a head -/
theorem bad_first (s : ByteArray) (k : Nat) (hk : k < s.size) (hk2 : k < 20) (hg : ∀ j, j < k → goB j (sf s j) = true) (hb : goB k (sf s k) = false) : badAt s = some k := by
  have ne : ∀ {p : Prop}, (goB k (sf s k) = true ↔ p) → ¬ p := fun e hp => by rw [e.2 hp] at hb; cases hb
  have hmid : k = 0 ∨ k = 1 ∨ k = 2 ∨ k = 3 ∨ k = 18 ∨ k = 19 := by
    rcases (by omega : k = 0 ∨ k = 1 ∨ k = 2 ∨ k = 3 ∨ k = 18 ∨ k = 19 ∨ (4 ≤ k ∧ k ≠ 18 ∧ k ≠ 19)) with h | h | h | h | h | h | ⟨h1, h2, h3⟩
    · exact .inl h
    · exact .inr (.inl h)
    · exact .inr (.inr (.inl h))
    · exact .inr (.inr (.inr (.inl h)))
    · exact .inr (.inr (.inr (.inr (.inl h))))
    · exact .inr (.inr (.inr (.inr (.inr h))))
    · rw [goMid k _ h1 h2 h3] at hb; cases hb
  unfold badAt
  rcases hmid with rfl | rfl | rfl | rfl | rfl | rfl
  · rw [if_pos (.inr (ne (go0 _)))]
  · have e0 := (go0 _).1 (hg 0 (by omega))
    rw [if_neg (by rintro (h | h); omega; exact h e0), if_pos (.inr (ne (go1 _)))]
  · have e0 := (go0 _).1 (hg 0 (by omega))
    have e1 := (go1 _).1 (hg 1 (by omega))
    rw [if_neg (by rintro (h | h); omega; exact h e0), if_neg (by rintro (h | h); omega; exact h e1), if_pos (.inr (ne (go2 _)))]
  · have e0 := (go0 _).1 (hg 0 (by omega))
    have e1 := (go1 _).1 (hg 1 (by omega))
    have e2 := (go2 _).1 (hg 2 (by omega))
    have e3 := ne (go3 _)
    rw [if_neg (by rintro (h | h); omega; exact h e0), if_neg (by rintro (h | h); omega; exact h e1), if_neg (by rintro (h | h); omega; exact h e2), if_pos (by omega)]
  · have e0 := (go0 _).1 (hg 0 (by omega))
    have e1 := (go1 _).1 (hg 1 (by omega))
    have e2 := (go2 _).1 (hg 2 (by omega))
    have e3 := (go3 _).1 (hg 3 (by omega))
    rw [if_neg (by rintro (h | h); omega; exact h e0), if_neg (by rintro (h | h); omega; exact h e1), if_neg (by rintro (h | h); omega; exact h e2), if_neg (by omega), if_pos ⟨hk, ne (go18 _)⟩]
  · have e0 := (go0 _).1 (hg 0 (by omega))
    have e1 := (go1 _).1 (hg 1 (by omega))
    have e2 := (go2 _).1 (hg 2 (by omega))
    have e3 := (go3 _).1 (hg 3 (by omega))
    have e18 := (go18 _).1 (hg 18 (by omega))
    have e19 := ne (go19 _)
    rw [if_neg (by rintro (h | h); omega; exact h e0), if_neg (by rintro (h | h); omega; exact h e1), if_neg (by rintro (h | h); omega; exact h e2), if_neg (by omega), if_neg (by rintro ⟨_, h⟩; exact h e18), if_neg (by omega), if_pos (by omega)]
/-- a head that is right as far as it goes -/
theorem bad_short (s : ByteArray) (hs : s.size < 20) (hg : ∀ j, j < s.size → goB j (sf s j) = true) : badAt s = some s.size := by
  unfold badAt
  by_cases h0 : s.size = 0
  · rw [if_pos (.inl h0), h0]
  rw [if_neg (by rintro (h | h); exact h0 h; exact h ((go0 _).1 (hg 0 (by omega))))]
  by_cases h1 : s.size ≤ 1
  · rw [if_pos (.inl h1)]; congr 1; omega
  rw [if_neg (by rintro (h | h); exact h1 h; exact h ((go1 _).1 (hg 1 (by omega))))]
  by_cases h2 : s.size ≤ 2
  · rw [if_pos (.inl h2)]; congr 1; omega
  rw [if_neg (by rintro (h | h); exact h2 h; exact h ((go2 _).1 (hg 2 (by omega))))]
  by_cases h3 : s.size ≤ 3
  · rw [if_pos (.inl h3)]; congr 1; omega
  have e3 := (go3 _).1 (hg 3 (by omega))
  rw [if_neg (by omega), if_neg (by rintro ⟨h, h'⟩; exact h' ((go18 _).1 (hg 18 h))), if_pos hs]
theorem bad_long (s : ByteArray) (hs : 20 ≤ s.size) (hg : ∀ j, j < 20 → goB j (sf s j) = true) :
    badAt s = if s.size < 36 + (sf s 19).toNat then some s.size else if 36 + (sf s 19).toNat < s.size then some (36 + (sf s 19).toNat) else none := by
  have e0 := (go0 _).1 (hg 0 (by omega))
  have e1 := (go1 _).1 (hg 1 (by omega))
  have e2 := (go2 _).1 (hg 2 (by omega))
  have e3 := (go3 _).1 (hg 3 (by omega))
  have e18 := (go18 _).1 (hg 18 (by omega))
  have e19 := (go19 _).1 (hg 19 (by omega))
  unfold badAt
  rw [if_neg (by rintro (h | h); omega; exact h e0), if_neg (by rintro (h | h); omega; exact h e1), if_neg (by rintro (h | h); omega; exact h e2), if_neg (by omega), if_neg (by rintro ⟨_, h⟩; exact h e18), if_neg (by omega), if_neg (by omega)]
end Go.Proofs.Ytgalgjmhdbncbaa
