import Derived.Test.YtgalgjmhdbncbaaM4
namespace Go.Proofs.Ytgalgjmhdbncbaa

/-! ### the program's product is the field's; a hash is changed by a change of one block -/
def bvF (c : Nat → Bool) : Nat → BitVec 128
  | 0 => 0#128
  | k + 1 => bvF c k ^^^ (if c k = true then BitVec.twoPow 128 k else 0#128)
theorem bvF_bit (c : Nat → Bool) : ∀ k, k ≤ 128 → ∀ i, (bvF c k).getLsbD i = (decide (i < k) && c i)
  | 0, _, i => by simp [bvF]
  | k + 1, hk, i => by
    simp only [bvF]
    rw [BitVec.getLsbD_xor, bvF_bit c k (by omega) i]
    by_cases h : i = k
    · subst h
      cases c i
      · simp
      · simp [show i < 128 by omega]
    · have e : (if c k = true then BitVec.twoPow 128 k else 0#128).getLsbD i = false := by
        cases c k
        · simp
        · rw [if_pos rfl, BitVec.getLsbD_twoPow, decide_eq_false (fun e : k = i => h e.symm), Bool.and_false]
      rw [e, Bool.xor_false]
      congr 1
      rw [decide_eq_decide]
      omega
/-- a block as a polynomial -/
def bvB (f : Nat → UInt8) : BitVec 128 := bvF (cB f) 128
theorem bvB_bit (f : Nat → UInt8) (i : Nat) (hi : i < 128) : (bvB f).getLsbD i = cB f i := by
  unfold bvB
  rw [bvF_bit _ _ (Nat.le_refl _), decide_eq_true hi, Bool.true_and]
theorem low_bit : ∀ i : Fin 128, (135#128).getLsbD i.val = lowP i.val := by decide +kernel
theorem gx_bit (v : BitVec 128) (i : Nat) (hi : i < 128) : (gx v).getLsbD i = txS (fun j => v.getLsbD j) i := by
  unfold gx txS
  rw [BitVec.getLsbD_xor, BitVec.getLsbD_shiftLeft]
  have e : (if v.getLsbD 127 = true then 135#128 else 0#128).getLsbD i = (v.getLsbD 127 && lowP i) := by
    cases v.getLsbD 127
    · simp
    · rw [if_pos rfl, Bool.true_and]; exact low_bit ⟨i, hi⟩
  rw [e]
  congr 1
  by_cases h : i = 0
  · subst h; simp
  · rw [if_neg h, decide_eq_true hi, decide_eq_false (by omega : ¬ i < 1)]
    simp
theorem gxN_bit (v : BitVec 128) : ∀ k i, i < 128 → (gxN v k).getLsbD i = itS (fun j => v.getLsbD j) k i
  | 0, _, _ => rfl
  | k + 1, i, hi => by
    simp only [gxN]
    rw [gx_bit _ i hi]
    exact txS_congr (gxN_bit v k) i hi
theorem gmN_bit (a b : BitVec 128) (i : Nat) (hi : i < 128) : ∀ k, (gmN a b k).getLsbD i = sumS (fun j => a.getLsbD j) (fun j => b.getLsbD j) k i
  | 0 => by simp [gmN, sumS]
  | k + 1 => by
    simp only [gmN, sumS]
    rw [BitVec.getLsbD_xor, gmN_bit a b i hi k]
    congr 1
    cases a.getLsbD k
    · simp
    · rw [if_pos rfl, Bool.true_and]; exact gxN_bit b k i hi
theorem bv_prod (f g : Nat → UInt8) : bvB (prod f g) = gm (bvB f) (bvB g) := by
  apply BitVec.eq_of_getLsbD_eq
  intro i hi
  rw [bvB_bit _ i hi, prod_cB f g i hi]
  unfold gm
  rw [gmN_bit _ _ i hi]
  exact (sumS_congr 128 (fun t ht => bvB_bit f t (by omega)) (fun j hj => bvB_bit g j hj) i hi).symm
theorem bv_zero (f : Nat → UInt8) : bvB f = 0#128 ↔ ∀ j, j < 16 → f j = 0 := by
  constructor
  · intro h j hj
    apply UInt8.eq_of_toBitVec_eq
    apply BitVec.eq_of_getLsbD_eq
    intro i hi
    have e := congrArg (fun v => v.getLsbD (8 * j + (7 - i))) h
    rw [bvB_bit f _ (by omega)] at e
    unfold cB at e
    rw [show (8 * j + (7 - i)) / 8 = j by omega, show 7 - (8 * j + (7 - i)) % 8 = i by omega] at e
    rw [e, BitVec.getLsbD_zero]
    exact BitVec.getLsbD_zero.symm
  · intro h
    apply BitVec.eq_of_getLsbD_eq
    intro i hi
    rw [bvB_bit f i hi, BitVec.getLsbD_zero]
    unfold cB
    rw [h (i / 8) (by omega)]
    exact BitVec.getLsbD_zero
/-- no product of blocks that are not 0 is 0 -/
theorem prod_ne (f h : Nat → UInt8) (hz : ∀ j, j < 16 → prod f h j = 0) (hh : ¬ ∀ j, j < 16 → h j = 0) : ∀ j, j < 16 → f j = 0 := by
  have e := (bv_zero (prod f h)).2 hz
  rw [bv_prod] at e
  exact (bv_zero f).1 (gm_ne _ _ e (fun e2 => hh ((bv_zero h).1 e2)))
theorem prod_zero' (f h : Nat → UInt8) (hz : ∀ j, j < 16 → f j = 0) : ∀ j, j < 16 → prod f h j = 0 := by
  rw [← bv_zero, bv_prod, (bv_zero f).2 hz, gm_comm, gm_zero]
/-- what is 0 but for one block, and not 0 there, has a hash that is not 0 -/
theorem hash_ne (h d : Nat → UInt8) (i : Nat) (hh : ¬ ∀ j, j < 16 → h j = 0) (hd : ¬ ∀ j, j < 16 → d (16 * i + j) = 0) : ∀ k, (∀ t j, t < k → t ≠ i → j < 16 → d (16 * t + j) = 0) →
    (k ≤ i → ∀ j, j < 16 → hashN h d k j = 0) ∧ (i < k → ¬ ∀ j, j < 16 → hashN h d k j = 0)
  | 0, _ => ⟨fun _ _ _ => rfl, fun h => absurd h (by omega)⟩
  | k + 1, h0 => by
    obtain ⟨h1, h2⟩ := hash_ne h d i hh hd k (fun t j ht => h0 t j (by omega))
    constructor
    · intro hk
      refine prod_zero' _ h ?_
      intro j hj
      rw [h1 (by omega) j hj, h0 k j (by omega) (by omega) hj]
      rfl
    · intro hk hz
      have e := prod_ne _ h hz hh
      by_cases hki : k = i
      · subst hki
        apply hd
        intro j hj
        have := e j hj
        rw [h1 (Nat.le_refl _) j hj, UInt8.zero_xor] at this
        exact this
      · apply h2 (by omega)
        intro j hj
        have := e j hj
        rw [h0 k j (by omega) hki hj, UInt8.xor_zero] at this
        exact this
/-- two texts that part in one block alone have hashes that part -/
theorem hash_parts (h f g : Nat → UInt8) (i k : Nat) (hi : i < k) (hh : ¬ ∀ j, j < 16 → h j = 0) (hd : ¬ ∀ j, j < 16 → f (16 * i + j) = g (16 * i + j)) (h0 : ∀ t j, t < k → t ≠ i → j < 16 → f (16 * t + j) = g (16 * t + j)) :
    ¬ ∀ j, j < 16 → hashN h f k j = hashN h g k j := by
  have hd' : ¬ ∀ j, j < 16 → (fun j => f j ^^^ g j) (16 * i + j) = 0 := by
    intro e
    apply hd
    intro j hj
    exact UInt8.xor_eq_zero_iff.1 (e j hj)
  have := (hash_ne h (fun j => f j ^^^ g j) i hh hd' k (fun t j ht hti hj => by
    show f _ ^^^ g _ = 0
    rw [h0 t j ht hti hj, UInt8.xor_self])).2 hi
  intro e
  apply this
  intro j hj
  rw [hashN_xor]
  show hashN h f k j ^^^ hashN h g k j = 0
  rw [e j hj, UInt8.xor_self]
end Go.Proofs.Ytgalgjmhdbncbaa
