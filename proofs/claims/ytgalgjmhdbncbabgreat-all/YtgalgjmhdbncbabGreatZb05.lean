import Derived.Test.YtgalgjmhdbncbabGreatZb04
namespace Go.Proofs.YtgalgjmhdbncbabGreat

def cP (a b : BitVec 64) (i : Nat) : Bool := if i < 64 then a.getLsbD (63 - i) else b.getLsbD (127 - i)
def cB (f : Nat → UInt8) (i : Nat) : Bool := (f (i / 8)).toBitVec.getLsbD (7 - i % 8)
def lowP (i : Nat) : Bool := i == 0 || i == 1 || i == 2 || i == 7
def txS (c : Nat → Bool) (i : Nat) : Bool := (if i = 0 then false else c (i - 1)) ^^ (c 127 && lowP i)
def itS (c : Nat → Bool) : Nat → Nat → Bool
  | 0 => c
  | k + 1 => txS (itS c k)
def sumS (a q : Nat → Bool) : Nat → Nat → Bool
  | 0 => fun _ => false
  | k + 1 => fun i => sumS a q k i ^^ (a k && itS q k i)

theorem foldK : ∀ i : Fin 64, (16212958658533785600#64).getLsbD (63 - i.val) = lowP i.val := by decide +kernel
theorem lowP_hi (i : Nat) (h : 64 ≤ i) : lowP i = false := by
  unfold lowP
  simp
  omega
theorem tx_cP (a b : BitVec 64) (i : Nat) (hi : i < 128) : cP (txH a b) (txL a b) i = txS (cP a b) i := by
  unfold txS
  have h127 : cP a b 127 = b.getLsbD 0 := rfl
  rw [h127]
  by_cases h : i < 64
  · have e1 : cP (txH a b) (txL a b) i = (txH a b).getLsbD (63 - i) := by unfold cP; rw [if_pos h]
    have e2 : (a >>> 1).getLsbD (63 - i) = (if i = 0 then false else cP a b (i - 1)) := by
      rw [BitVec.getLsbD_ushiftRight]
      by_cases h0 : i = 0
      · rw [if_pos h0]; exact BitVec.getLsbD_of_ge _ _ (by omega)
      · rw [if_neg h0]
        unfold cP
        rw [if_pos (by omega), show 1 + (63 - i) = 63 - (i - 1) by omega]
    rw [e1, ← e2, ← foldK ⟨i, h⟩]
    unfold txH
    cases b.getLsbD 0 <;> simp
  · have e1 : cP (txH a b) (txL a b) i = (txL a b).getLsbD (127 - i) := by unfold cP; rw [if_neg h]
    rw [e1, lowP_hi i (by omega), Bool.and_false, Bool.xor_false, if_neg (by omega)]
    unfold txL
    rw [BitVec.getLsbD_or, BitVec.getLsbD_shiftLeft, BitVec.getLsbD_ushiftRight]
    by_cases h64 : i = 64
    · subst h64
      have : b.getLsbD (1 + (127 - 64)) = false := BitVec.getLsbD_of_ge _ _ (by omega)
      rw [this]
      simp [cP]
    · rw [decide_eq_true (by omega : 127 - i < 63)]
      unfold cP
      rw [if_neg (by omega), show 1 + (127 - i) = 127 - (i - 1) by omega]
      simp
theorem cP_xor (a b a' b' : BitVec 64) (i : Nat) : cP (a ^^^ a') (b ^^^ b') i = (cP a b i ^^ cP a' b' i) := by
  unfold cP
  split <;> simp
theorem txS_congr {c d : Nat → Bool} (h : ∀ i, i < 128 → c i = d i) : ∀ i, i < 128 → txS c i = txS d i := by
  intro i hi
  unfold txS
  rw [h 127 (by omega)]
  by_cases h0 : i = 0
  · rw [if_pos h0, if_pos h0]
  · rw [if_neg h0, if_neg h0, h (i - 1) (by omega)]
theorem itS_congr {c d : Nat → Bool} (h : ∀ i, i < 128 → c i = d i) : ∀ k i, i < 128 → itS c k i = itS d k i
  | 0, i, hi => h i hi
  | k + 1, i, hi => txS_congr (itS_congr h k) i hi
theorem itS_add (c : Nat → Bool) (k : Nat) : ∀ n, itS (itS c k) n = itS c (k + n)
  | 0 => rfl
  | n + 1 => by
    show txS (itS (itS c k) n) = txS (itS c (k + n))
    rw [itS_add c k n]
theorem runW_c (b : BitVec 64) : ∀ (k : Nat) (s : St), k ≤ 64 → ∀ i, i < 128 →
    cP (runW b k s).sH (runW b k s).sL i = (cP s.sH s.sL i ^^ sumS (fun t => b.getLsbD (63 - t)) (cP s.qH s.qL) k i) ∧ cP (runW b k s).qH (runW b k s).qL i = itS (cP s.qH s.qL) k i
  | 0, s, _, i, _ => ⟨by simp [runW, sumS], rfl⟩
  | k + 1, s, hk, i, hi => by
    have ih := runW_c b k s (by omega)
    have e : runW b (k + 1) s = stp (b.getLsbD (63 - k)) (runW b k s) := rfl
    rw [e]
    generalize runW b k s = z at *
    refine ⟨?_, ?_⟩
    · have h1 := (ih i hi).1
      have h2 := (ih i hi).2
      have e2 : cP (stp (b.getLsbD (63 - k)) z).sH (stp (b.getLsbD (63 - k)) z).sL i = (cP z.sH z.sL i ^^ (b.getLsbD (63 - k) && cP z.qH z.qL i)) := by
        unfold stp
        cases b.getLsbD (63 - k)
        · simp
        · simp [cP_xor]
      rw [e2, h1, h2]
      simp only [sumS, Bool.xor_assoc]
    · show cP (txH z.qH z.qL) (txL z.qH z.qL) i = txS (itS (cP s.qH s.qL) k) i
      rw [tx_cP _ _ i hi]
      exact txS_congr (fun j hj => (ih j hj).2) i hi
theorem sumS_congr {a a' q q' : Nat → Bool} : ∀ k, (∀ t, t < k → a t = a' t) → (∀ i, i < 128 → q i = q' i) → ∀ i, i < 128 → sumS a q k i = sumS a' q' k i
  | 0, _, _, _, _ => rfl
  | k + 1, ha, hq, i, hi => by
    simp only [sumS]
    rw [sumS_congr k (fun t ht => ha t (by omega)) hq i hi, ha k (by omega), itS_congr hq k i hi]
theorem sumS_split (a q : Nat → Bool) (n : Nat) : ∀ k i, sumS a q (n + k) i = (sumS a q n i ^^ sumS (fun t => a (n + t)) (itS q n) k i)
  | 0, i => by simp [sumS]
  | k + 1, i => by
    show (sumS a q (n + k) i ^^ (a (n + k) && itS q (n + k) i)) = _
    rw [sumS_split a q n k i]
    simp only [sumS, itS_add, Bool.xor_assoc]
theorem pk_cB (f : Nat → UInt8) (i : Nat) (hi : i < 128) : cP (pk f 8) (pk (fun j => f (8 + j)) 8) i = cB f i := by
  unfold cP cB
  by_cases h : i < 64
  · rw [if_pos h]
    have := pk_bit f 8 (Nat.le_refl _) (i / 8) (by omega) (7 - i % 8) (by omega)
    rwa [show 8 * (8 - 1 - i / 8) + (7 - i % 8) = 63 - i by omega] at this
  · rw [if_neg h]
    have := pk_bit (fun j => f (8 + j)) 8 (Nat.le_refl _) (i / 8 - 8) (by omega) (7 - i % 8) (by omega)
    rwa [show 8 * (8 - 1 - (i / 8 - 8)) + (7 - i % 8) = 127 - i by omega, show 8 + (i / 8 - 8) = i / 8 by omega] at this
theorem upk_cB (a b : BitVec 64) (i : Nat) (hi : i < 128) : cB (upk a b) i = cP a b i := by
  unfold cB upk cP
  by_cases h : i < 64
  · rw [if_pos h, if_pos (by omega)]
    show ((a >>> (8 * (7 - i / 8))).setWidth 8).getLsbD (7 - i % 8) = _
    rw [BitVec.getLsbD_setWidth, BitVec.getLsbD_ushiftRight, decide_eq_true (by omega : 7 - i % 8 < 8), Bool.true_and, show 8 * (7 - i / 8) + (7 - i % 8) = 63 - i by omega]
  · rw [if_neg h, if_neg (by omega)]
    show ((b >>> (8 * (15 - i / 8))).setWidth 8).getLsbD (7 - i % 8) = _
    rw [BitVec.getLsbD_setWidth, BitVec.getLsbD_ushiftRight, decide_eq_true (by omega : 7 - i % 8 < 8), Bool.true_and, show 8 * (15 - i / 8) + (7 - i % 8) = 127 - i by omega]
theorem prod_cB (f g : Nat → UInt8) (i : Nat) (hi : i < 128) : cB (prod f g) i = sumS (cB f) (cB g) 128 i := by
  unfold prod
  rw [upk_cB _ _ i hi]
  have e : prodSt f g = runW (pk (fun j => f (8 + j)) 8) 64 (runW (pk f 8) 64 ⟨0, 0, pk g 8, pk (fun j => g (8 + j)) 8⟩) := rfl
  rw [e]
  have h1 := runW_c (pk f 8) 64 ⟨0, 0, pk g 8, pk (fun j => g (8 + j)) 8⟩ (Nat.le_refl _)
  have h2 := (runW_c (pk (fun j => f (8 + j)) 8) 64 (runW (pk f 8) 64 ⟨0, 0, pk g 8, pk (fun j => g (8 + j)) 8⟩) (Nat.le_refl _) i hi).1
  rw [h2, (h1 i hi).1]
  have h0 : cP 0 0 i = false := by unfold cP; split <;> simp
  have hA : sumS (fun t => (pk f 8).getLsbD (63 - t)) (cP (pk g 8) (pk (fun j => g (8 + j)) 8)) 64 i = sumS (cB f) (cB g) 64 i := by
    refine sumS_congr 64 (fun t ht => ?_) (fun j hj => pk_cB g j hj) i hi
    rw [← pk_cB f t (by omega)]
    unfold cP
    rw [if_pos ht]
  have hB : sumS (fun t => (pk (fun j => f (8 + j)) 8).getLsbD (63 - t)) (cP (runW (pk f 8) 64 ⟨0, 0, pk g 8, pk (fun j => g (8 + j)) 8⟩).qH (runW (pk f 8) 64 ⟨0, 0, pk g 8, pk (fun j => g (8 + j)) 8⟩).qL) 64 i
      = sumS (fun t => cB f (64 + t)) (itS (cB g) 64) 64 i := by
    refine sumS_congr 64 (fun t ht => ?_) (fun j hj => ?_) i hi
    · rw [← pk_cB f (64 + t) (by omega)]
      unfold cP
      rw [if_neg (by omega), show 127 - (64 + t) = 63 - t by omega]
    · rw [(h1 j hj).2]
      exact itS_congr (fun j hj => pk_cB g j hj) 64 j hj
  rw [hA, hB, h0, Bool.false_xor]
  exact (sumS_split (cB f) (cB g) 64 64 i).symm

def rowS (a b : Nat → Bool) : Nat → Nat → Bool
  | 0 => fun _ => false
  | n + 1 => fun m => rowS a b n m ^^ (a n && (decide (n ≤ m ∧ m - n < 128) && b (m - n)))
def redS (u : Nat → Bool) : Nat → Nat → Bool
  | 0 => u
  | t + 1 => fun m => redS u t m ^^ (redS u t (255 - t) && (decide (127 - t ≤ m) && lowP (m - (127 - t))))
theorem redS_xor (u v : Nat → Bool) : ∀ t m, redS (fun m => u m ^^ v m) t m = (redS u t m ^^ redS v t m)
  | 0, _ => rfl
  | t + 1, m => by
    simp only [redS]
    rw [redS_xor u v t m, redS_xor u v t (255 - t)]
    generalize redS u t m = x1
    generalize redS v t m = x2
    generalize redS u t (255 - t) = x3
    generalize redS v t (255 - t) = x4
    generalize (decide (127 - t ≤ m) && lowP (m - (127 - t))) = x5
    revert x1 x2 x3 x4 x5
    decide
theorem redS_and (c : Bool) (u : Nat → Bool) : ∀ t m, redS (fun m => c && u m) t m = (c && redS u t m)
  | 0, _ => rfl
  | t + 1, m => by
    simp only [redS]
    rw [redS_and c u t m, redS_and c u t (255 - t)]
    cases c <;> simp
theorem redS_zero : ∀ t m, redS (fun _ => false) t m = false
  | 0, _ => rfl
  | t + 1, m => by
    simp only [redS]
    rw [redS_zero t m, redS_zero t (255 - t)]; rfl
def shS (n : Nat) (b : Nat → Bool) (m : Nat) : Bool := decide (n ≤ m ∧ m - n < 128) && b (m - n)
theorem red_rows (a b : Nat → Bool) (q : Nat → Bool) (t : Nat) (m : Nat) : ∀ n, (∀ i, i < n → redS (shS i b) t m = itS q i m) → redS (rowS a b n) t m = sumS a q n m
  | 0, _ => redS_zero t m
  | n + 1, h => by
    have e : rowS a b (n + 1) = fun m => rowS a b n m ^^ (a n && shS n b m) := rfl
    rw [e, redS_xor, redS_and, red_rows a b q t m n (fun i hi => h i (by omega)), h n (by omega)]
    rfl
def eS (n : Nat) (m : Nat) : Bool := decide (m = n)
def comb (b : Nat → Bool) (E : Nat → Nat → Bool) : Nat → Nat → Bool
  | 0 => fun _ => false
  | n + 1 => fun m => comb b E n m ^^ (b n && E n m)
theorem redS_comb (b : Nat → Bool) (E : Nat → Nat → Bool) (t m : Nat) : ∀ n, redS (comb b E n) t m = comb b (fun k => redS (E k) t) n m
  | 0 => redS_zero t m
  | n + 1 => by
    have e : comb b E (n + 1) = fun m => comb b E n m ^^ (b n && E n m) := rfl
    rw [e, redS_xor, redS_and, redS_comb b E t m n]
    rfl
theorem txS_xor (u v : Nat → Bool) (i : Nat) : txS (fun m => u m ^^ v m) i = (txS u i ^^ txS v i) := by
  unfold txS
  by_cases h : i = 0
  · simp only [if_pos h]
    cases u 127 <;> cases v 127 <;> cases lowP i <;> rfl
  · simp only [if_neg h]
    cases u 127 <;> cases v 127 <;> cases lowP i <;> cases u (i - 1) <;> cases v (i - 1) <;> rfl
theorem txS_and (c : Bool) (u : Nat → Bool) (i : Nat) : txS (fun m => c && u m) i = (c && txS u i) := by
  unfold txS
  cases c <;> simp
theorem itS_zero : ∀ k i, itS (fun _ => false) k i = false
  | 0, _ => rfl
  | k + 1, i => by
    have : itS (fun _ => false) k = fun _ => false := funext (itS_zero k)
    show txS (itS (fun _ => false) k) i = false
    rw [this]
    unfold txS
    simp
theorem itS_xor (u v : Nat → Bool) : ∀ k i, itS (fun m => u m ^^ v m) k i = (itS u k i ^^ itS v k i)
  | 0, _ => rfl
  | k + 1, i => by
    have : itS (fun m => u m ^^ v m) k = fun m => itS u k m ^^ itS v k m := funext (itS_xor u v k)
    show txS (itS (fun m => u m ^^ v m) k) i = _
    rw [this, txS_xor]; rfl
theorem itS_and (c : Bool) (u : Nat → Bool) : ∀ k i, itS (fun m => c && u m) k i = (c && itS u k i)
  | 0, _ => rfl
  | k + 1, i => by
    have : itS (fun m => c && u m) k = fun m => c && itS u k m := funext (itS_and c u k)
    show txS (itS (fun m => c && u m) k) i = _
    rw [this, txS_and]; rfl
theorem itS_comb (b : Nat → Bool) (E : Nat → Nat → Bool) (k i : Nat) : ∀ n, itS (comb b E n) k i = comb b (fun j => itS (E j) k) n i
  | 0 => itS_zero k i
  | n + 1 => by
    have e : comb b E (n + 1) = fun m => comb b E n m ^^ (b n && E n m) := rfl
    rw [e, itS_xor, itS_and, itS_comb b E k i n]
    rfl
theorem comb_congr (b : Nat → Bool) {E E' : Nat → Nat → Bool} (m : Nat) : ∀ n, (∀ k, k < n → E k m = E' k m) → comb b E n m = comb b E' n m
  | 0, _ => rfl
  | n + 1, h => by
    simp only [comb]
    rw [comb_congr b m n (fun k hk => h k (by omega)), h n (by omega)]
theorem comb_e (b : Nat → Bool) (s m : Nat) : ∀ n, comb b (fun k => eS (s + k)) n m = (decide (s ≤ m ∧ m - s < n) && b (m - s))
  | 0 => by simp [comb]
  | n + 1 => by
    simp only [comb]
    rw [comb_e b s m n]
    unfold eS
    by_cases h : m = s + n
    · subst h
      rw [show s + n - s = n by omega]
      simp
    · rw [decide_eq_false h, Bool.and_false, Bool.xor_false]
      congr 1
      rw [decide_eq_decide]
      omega
theorem sh_comb (n : Nat) (b : Nat → Bool) : shS n b = comb b (fun k => eS (n + k)) 128 := by
  funext m
  rw [comb_e]
  rfl
theorem id_comb (b : Nat → Bool) (m : Nat) (hm : m < 128) : b m = comb b (fun k => eS k) 128 m := by
  have := comb_e b 0 m 128
  simp only [Nat.zero_add] at this
  rw [this]
  simp [hm]
def redN (N : Nat) : Nat → Nat
  | 0 => N
  | t + 1 => if (redN N t).testBit (255 - t) then redN N t ^^^ (135 <<< (127 - t)) else redN N t
theorem t135 (j : Nat) : (135 : Nat).testBit j = lowP j := by
  by_cases h : j < 8
  · have : ∀ i : Fin 8, (135 : Nat).testBit i.val = lowP i.val := by decide +kernel
    exact this ⟨j, h⟩
  · rw [Nat.testBit_lt_two_pow (Nat.lt_of_lt_of_le (by decide : 135 < 2 ^ 8) (Nat.pow_le_pow_right (by omega) (by omega)))]
    unfold lowP
    simp
    omega
theorem redN_bit (N : Nat) : ∀ t m, (redN N t).testBit m = redS (fun m => N.testBit m) t m
  | 0, _ => rfl
  | t + 1, m => by
    simp only [redN, redS]
    rw [← redN_bit N t m, ← redN_bit N t (255 - t)]
    cases (redN N t).testBit (255 - t)
    · simp
    · simp [Nat.testBit_xor, Nat.testBit_shiftLeft, t135]
def itN : Nat → Nat
  | 0 => 1
  | n + 1 => if (itN n).testBit 127 then ((itN n <<< 1) % 2 ^ 128) ^^^ 135 else (itN n <<< 1) % 2 ^ 128
theorem itN_bit : ∀ n m, m < 128 → (itN n).testBit m = itS (eS 0) n m
  | 0, m, _ => by
    show (1 : Nat).testBit m = decide (m = 0)
    by_cases h : m = 0
    · subst h; rfl
    · rw [decide_eq_false h]
      exact Nat.testBit_lt_two_pow (Nat.one_lt_two_pow h)
  | n + 1, m, hm => by
    have h127 := itN_bit n 127 (by omega)
    show (itN (n + 1)).testBit m = txS (itS (eS 0) n) m
    unfold txS
    rw [← h127]
    have e : ((itN n <<< 1) % 2 ^ 128).testBit m = (if m = 0 then false else itS (eS 0) n (m - 1)) := by
      rw [Nat.testBit_mod_two_pow, decide_eq_true hm, Bool.true_and, Nat.testBit_shiftLeft]
      by_cases h0 : m = 0
      · rw [if_pos h0, decide_eq_false (by omega)]; rfl
      · rw [if_neg h0, decide_eq_true (by omega), Bool.true_and]
        exact itN_bit n (m - 1) (by omega)
    simp only [itN]
    cases (itN n).testBit 127
    · simp [e]
    · simp [Nat.testBit_xor, e, t135]
set_option maxRecDepth 100000 in
theorem red_pow : ∀ n : Fin 255, redN (2 ^ n.val) 128 % 2 ^ 128 = itN n.val % 2 ^ 128 := by decide +kernel
theorem red_e (n : Nat) (hn : n < 255) (m : Nat) (hm : m < 128) : redS (eS n) 128 m = itS (eS 0) n m := by
  have h := congrArg (fun x => x.testBit m) (red_pow ⟨n, hn⟩)
  simp only [Nat.testBit_mod_two_pow, decide_eq_true hm, Bool.true_and] at h
  rw [redN_bit, itN_bit n m hm] at h
  have hf : eS n = fun j => (2 ^ n).testBit j := by
    funext j
    rw [Nat.testBit_two_pow]
    unfold eS
    rw [decide_eq_decide]
    exact eq_comm
  rw [hf]
  exact h
theorem it_e : ∀ k, k < 128 → ∀ i, i < 128 → itS (eS 0) k i = eS k i
  | 0, _, _, _ => rfl
  | k + 1, hk, i, hi => by
    show txS (itS (eS 0) k) i = _
    rw [txS_congr (it_e k (by omega)) i hi]
    unfold txS eS
    rw [decide_eq_false (by omega : ¬ 127 = k), Bool.false_and, Bool.xor_false]
    by_cases h : i = 0
    · rw [if_pos h, decide_eq_false (by omega)]
    · rw [if_neg h, decide_eq_decide]; omega
theorem red_sh (b : Nat → Bool) (n : Nat) (hn : n < 128) (m : Nat) (hm : m < 128) : redS (shS n b) 128 m = itS b n m := by
  rw [sh_comb, redS_comb, itS_congr (fun i hi => id_comb b i hi) n m hm, itS_comb]
  refine comb_congr b m 128 (fun k hk => ?_)
  rw [red_e (n + k) (by omega) m hm, show n + k = k + n by omega, ← itS_add, itS_congr (fun i hi => it_e k hk i hi) n m hm]
theorem red_prod (f g : Nat → UInt8) (m : Nat) (hm : m < 128) : redS (rowS (cB f) (cB g) 128) 128 m = cB (prod f g) m := by
  rw [prod_cB f g m hm]
  exact red_rows (cB f) (cB g) (cB g) 128 m 128 (fun i hi => red_sh (cB g) i hi m hm)
end Go.Proofs.YtgalgjmhdbncbabGreat
