import Derived.Test.YtgalgjmhdbncbaaGreatZu02
namespace Go.Proofs.YtgalgjmhdbncbaaGreat

theorem pk_xor (f g : Nat → UInt8) : ∀ n, pk (fun j => f j ^^^ g j) n = pk f n ^^^ pk g n
  | 0 => by simp [pk]
  | n + 1 => by
    simp only [pk]
    rw [pk_xor f g n]
    apply BitVec.eq_of_getLsbD_eq
    intro i hi
    simp
    by_cases h : i < 8
    · simp [h]
    · have h1 : (f n).toBitVec.getLsbD i = false := BitVec.getLsbD_of_ge _ _ (by omega)
      have h2 : (g n).toBitVec.getLsbD i = false := BitVec.getLsbD_of_ge _ _ (by omega)
      simp [h, h1, h2, hi]

theorem runW_q (b : BitVec 64) : ∀ (k : Nat) (s : St) (b' : BitVec 64) (s' : St), s.qH = s'.qH → s.qL = s'.qL → (runW b k s).qH = (runW b' k s').qH ∧ (runW b k s).qL = (runW b' k s').qL
  | 0, _, _, _, h1, h2 => ⟨h1, h2⟩
  | k + 1, s, b', s', h1, h2 => by
    obtain ⟨e1, e2⟩ := runW_q b k s b' s' h1 h2
    simp only [runW, stp]
    rw [e1, e2]
    exact ⟨rfl, rfl⟩
theorem xor_step (x y : Bool) (s t q : BitVec 64) : (if (x ^^ y) = true then (s ^^^ t) ^^^ q else s ^^^ t) = (if x = true then s ^^^ q else s) ^^^ (if y = true then t ^^^ q else t) := by
  apply BitVec.eq_of_getLsbD_eq
  intro i hi
  cases x <;> cases y <;> simp <;> cases s.getLsbD i <;> cases t.getLsbD i <;> cases q.getLsbD i <;> rfl
theorem runW_xor (b b' : BitVec 64) (qH qL : BitVec 64) : ∀ (k : Nat) (s t s' t' : BitVec 64),
    (runW (b ^^^ b') k ⟨s ^^^ s', t ^^^ t', qH, qL⟩).sH = (runW b k ⟨s, t, qH, qL⟩).sH ^^^ (runW b' k ⟨s', t', qH, qL⟩).sH ∧
    (runW (b ^^^ b') k ⟨s ^^^ s', t ^^^ t', qH, qL⟩).sL = (runW b k ⟨s, t, qH, qL⟩).sL ^^^ (runW b' k ⟨s', t', qH, qL⟩).sL
  | 0, _, _, _, _ => ⟨rfl, rfl⟩
  | k + 1, s, t, s', t' => by
    obtain ⟨e1, e2⟩ := runW_xor b b' qH qL k s t s' t'
    obtain ⟨q1, q2⟩ := runW_q (b ^^^ b') k ⟨s ^^^ s', t ^^^ t', qH, qL⟩ b ⟨s, t, qH, qL⟩ rfl rfl
    obtain ⟨q3, q4⟩ := runW_q b' k ⟨s', t', qH, qL⟩ b ⟨s, t, qH, qL⟩ rfl rfl
    simp only [runW, stp, e1, e2, q1, q2, q3, q4, BitVec.getLsbD_xor]
    exact ⟨xor_step _ _ _ _ _, xor_step _ _ _ _ _⟩
theorem St.eta (s : St) : s = ⟨s.sH, s.sL, s.qH, s.qL⟩ := rfl
theorem runT_xor (a b a' b' qH qL : BitVec 64) :
    (runT (a ^^^ a') (b ^^^ b') ⟨0, 0, qH, qL⟩ 2).sH = (runT a b ⟨0, 0, qH, qL⟩ 2).sH ^^^ (runT a' b' ⟨0, 0, qH, qL⟩ 2).sH ∧
    (runT (a ^^^ a') (b ^^^ b') ⟨0, 0, qH, qL⟩ 2).sL = (runT a b ⟨0, 0, qH, qL⟩ 2).sL ^^^ (runT a' b' ⟨0, 0, qH, qL⟩ 2).sL := by
  have h := runW_xor a a' qH qL 64 0 0 0 0
  rw [show (0 : BitVec 64) ^^^ 0 = 0 from rfl] at h
  obtain ⟨q1, q2⟩ := runW_q (a ^^^ a') 64 ⟨0, 0, qH, qL⟩ a ⟨0, 0, qH, qL⟩ rfl rfl
  obtain ⟨q3, q4⟩ := runW_q a' 64 ⟨0, 0, qH, qL⟩ a ⟨0, 0, qH, qL⟩ rfl rfl
  have h2 := runW_xor b b' (runW a 64 ⟨0, 0, qH, qL⟩).qH (runW a 64 ⟨0, 0, qH, qL⟩).qL 64 (runW a 64 ⟨0, 0, qH, qL⟩).sH (runW a 64 ⟨0, 0, qH, qL⟩).sL (runW a' 64 ⟨0, 0, qH, qL⟩).sH (runW a' 64 ⟨0, 0, qH, qL⟩).sL
  simp only [runT]
  rw [if_neg (by decide), if_neg (by decide), if_neg (by decide), if_neg (by decide), if_neg (by decide), if_neg (by decide)]
  rw [St.eta (runW (a ^^^ a') 64 ⟨0, 0, qH, qL⟩), St.eta (runW a' 64 ⟨0, 0, qH, qL⟩), h.1, h.2, q1, q2, q3, q4]
  exact h2

theorem upk_xor (a b a' b' : BitVec 64) (j : Nat) : upk (a ^^^ a') (b ^^^ b') j = upk a b j ^^^ upk a' b' j := by
  unfold upk
  split
  · apply UInt8.eq_of_toBitVec_eq
    apply BitVec.eq_of_getLsbD_eq
    intro i hi
    simp [hi]
  · apply UInt8.eq_of_toBitVec_eq
    apply BitVec.eq_of_getLsbD_eq
    intro i hi
    simp [hi]

theorem prod_xor (f g h : Nat → UInt8) : prod (fun j => f j ^^^ g j) h = fun j => prod f h j ^^^ prod g h j := by
  funext j
  unfold prod prodSt
  rw [pk_xor, pk_xor (fun j => f (8 + j)) (fun j => g (8 + j))]
  obtain ⟨h1, h2⟩ := runT_xor (pk f 8) (pk (fun j => f (8 + j)) 8) (pk g 8) (pk (fun j => g (8 + j)) 8) (pk h 8) (pk (fun j => h (8 + j)) 8)
  rw [h1, h2, upk_xor]
theorem hashN_xor (h f g : Nat → UInt8) : ∀ k, hashN h (fun j => f j ^^^ g j) k = fun j => hashN h f k j ^^^ hashN h g k j
  | 0 => by funext j; simp [hashN]
  | k + 1 => by
    have e : (fun j => hashN h (fun j => f j ^^^ g j) k j ^^^ (f (16 * k + j) ^^^ g (16 * k + j))) = fun j => (hashN h f k j ^^^ f (16 * k + j)) ^^^ (hashN h g k j ^^^ g (16 * k + j)) := by
      rw [hashN_xor h f g k]
      funext j
      ac_rfl
    show prod (fun j => hashN h (fun j => f j ^^^ g j) k j ^^^ (f (16 * k + j) ^^^ g (16 * k + j))) h = _
    rw [e, prod_xor]
    rfl
theorem prod_zero (h : Nat → UInt8) : prod (fun _ => 0) h = fun _ => 0 := by
  have := prod_xor (fun _ => 0) (fun _ => 0) h
  funext j
  have e := congrFun this j
  simp only [UInt8.xor_self] at e
  exact e
theorem hashN_zero (h : Nat → UInt8) : ∀ k, hashN h (fun _ => 0) k = fun _ => 0
  | 0 => rfl
  | k + 1 => by
    show prod (fun j => hashN h (fun _ => 0) k j ^^^ 0) h = _
    rw [hashN_zero h k]
    simpa using prod_zero h

theorem pk_bit (f : Nat → UInt8) : ∀ n, n ≤ 8 → ∀ j, j < n → ∀ i, i < 8 → (pk f n).getLsbD (8 * (n - 1 - j) + i) = (f j).toBitVec.getLsbD i
  | 0, _, j, hj, _, _ => absurd hj (by omega)
  | n + 1, hn, j, hj, i, hi => by
    simp only [pk, BitVec.getLsbD_or, BitVec.getLsbD_shiftLeft, BitVec.getLsbD_setWidth]
    by_cases h : j = n
    · subst h
      rw [show 8 * (j + 1 - 1 - j) + i = i by omega]
      simp [hi, show i < 64 by omega]
    · have e := pk_bit f n (by omega) j (by omega) i hi
      rw [show 8 * (n + 1 - 1 - j) + i - 8 = 8 * (n - 1 - j) + i by omega, e]
      have h1 : (f j).toBitVec.getLsbD i = (f j).toBitVec.getLsbD i := rfl
      have h2 : (f n).toBitVec.getLsbD (8 * (n + 1 - 1 - j) + i) = false := BitVec.getLsbD_of_ge _ _ (by omega)
      rw [h2]
      have h3 : 8 * (n + 1 - 1 - j) + i < 64 := by omega
      have h4 : ¬ 8 * (n + 1 - 1 - j) + i < 8 := by omega
      rw [decide_eq_true h3, decide_eq_false h4]
      simp
theorem upk_pk (f : Nat → UInt8) (j : Nat) (hj : j < 16) : upk (pk f 8) (pk (fun j => f (8 + j)) 8) j = f j := by
  unfold upk
  split
  · rename_i h
    apply UInt8.eq_of_toBitVec_eq
    apply BitVec.eq_of_getLsbD_eq
    intro i hi
    have e := pk_bit f 8 (Nat.le_refl _) j h i hi
    simp [hi]
    exact e
  · rename_i h
    apply UInt8.eq_of_toBitVec_eq
    apply BitVec.eq_of_getLsbD_eq
    intro i hi
    have e := pk_bit (fun j => f (8 + j)) 8 (Nat.le_refl _) (j - 8) (by omega) i hi
    simp [hi]
    rw [show 8 + (j - 8) = j by omega, show 8 - 1 - (j - 8) = 15 - j by omega] at e
    exact e

theorem tx_one : ∀ k : Fin 63, txH (BitVec.twoPow 64 (63 - k.val)) 0 = BitVec.twoPow 64 (63 - (k.val + 1)) ∧ txL (BitVec.twoPow 64 (63 - k.val)) 0 = 0 ∧
    txH 0 (BitVec.twoPow 64 (63 - k.val)) = 0 ∧ txL 0 (BitVec.twoPow 64 (63 - k.val)) = BitVec.twoPow 64 (63 - (k.val + 1)) := by decide +kernel
theorem runW_hi (a : BitVec 64) : ∀ k, k ≤ 63 → (runW a k ⟨0, 0, BitVec.twoPow 64 63, 0⟩).qH = BitVec.twoPow 64 (63 - k) ∧ (runW a k ⟨0, 0, BitVec.twoPow 64 63, 0⟩).qL = 0
  | 0, _ => ⟨rfl, rfl⟩
  | k + 1, hk => by
    obtain ⟨e1, e2⟩ := runW_hi a k (by omega)
    have t := tx_one ⟨k, by omega⟩
    simp only [runW, stp, e1, e2]
    exact ⟨t.1, t.2.1⟩
theorem runW_hi64 (a : BitVec 64) : (runW a 64 ⟨0, 0, BitVec.twoPow 64 63, 0⟩).qH = 0 ∧ (runW a 64 ⟨0, 0, BitVec.twoPow 64 63, 0⟩).qL = BitVec.twoPow 64 63 := by
  obtain ⟨e1, e2⟩ := runW_hi a 63 (Nat.le_refl _)
  have e : runW a 64 ⟨0, 0, BitVec.twoPow 64 63, 0⟩ = stp (a.getLsbD (63 - 63)) (runW a 63 ⟨0, 0, BitVec.twoPow 64 63, 0⟩) := rfl
  generalize runW a 63 ⟨0, 0, BitVec.twoPow 64 63, 0⟩ = z at *
  rw [e]
  simp only [stp]
  rw [e1, e2]
  exact ⟨by decide +kernel, by decide +kernel⟩
theorem runW_lo (b sH sL : BitVec 64) : ∀ k, k ≤ 63 → (runW b k ⟨sH, sL, 0, BitVec.twoPow 64 63⟩).qL = BitVec.twoPow 64 (63 - k) ∧ (runW b k ⟨sH, sL, 0, BitVec.twoPow 64 63⟩).qH = 0
  | 0, _ => ⟨rfl, rfl⟩
  | k + 1, hk => by
    obtain ⟨e1, e2⟩ := runW_lo b sH sL k (by omega)
    have t := tx_one ⟨k, by omega⟩
    simp only [runW, stp, e1, e2]
    exact ⟨t.2.2.2, t.2.2.1⟩
theorem put_bit (a s : BitVec 64) (k : Nat) (hk : k < 64) (h : ∀ i, i < 64 → s.getLsbD i = (decide (64 - k ≤ i) && a.getLsbD i)) :
    ∀ i, i < 64 → (if a.getLsbD (63 - k) = true then s ^^^ BitVec.twoPow 64 (63 - k) else s).getLsbD i = (decide (64 - (k + 1) ≤ i) && a.getLsbD i) := by
  intro i hi
  by_cases he : i = 63 - k
  · subst he
    have h1 := h (63 - k) (by omega)
    rw [decide_eq_false (by omega : ¬ 64 - k ≤ 63 - k)] at h1
    rw [decide_eq_true (by omega : 64 - (k + 1) ≤ 63 - k)]
    cases hb : a.getLsbD (63 - k)
    · simpa [hb] using h1
    · simp [h1, BitVec.getLsbD_twoPow]; omega
  · have h2 : (BitVec.twoPow 64 (63 - k)).getLsbD i = false := by
      rw [BitVec.getLsbD_twoPow]; simp; omega
    have h3 : decide (64 - (k + 1) ≤ i) = decide (64 - k ≤ i) := by
      rw [decide_eq_decide]; omega
    rw [h3, ← h i hi]
    cases a.getLsbD (63 - k) <;> simp [h2]
theorem runW_hiS (a : BitVec 64) : ∀ k, k ≤ 64 → (∀ i, i < 64 → (runW a k ⟨0, 0, BitVec.twoPow 64 63, 0⟩).sH.getLsbD i = (decide (64 - k ≤ i) && a.getLsbD i)) ∧ (runW a k ⟨0, 0, BitVec.twoPow 64 63, 0⟩).sL = 0
  | 0, _ => ⟨fun i hi => by rw [decide_eq_false (by omega)]; simp [runW], rfl⟩
  | k + 1, hk => by
    obtain ⟨e1, e2⟩ := runW_hi a k (by omega)
    obtain ⟨h1, h2⟩ := runW_hiS a k (by omega)
    simp only [runW, stp, e1, e2, h2]
    exact ⟨put_bit a _ k (by omega) h1, by split <;> rfl⟩
theorem runW_loS (b sH : BitVec 64) : ∀ k, k ≤ 64 → (∀ i, i < 64 → (runW b k ⟨sH, 0, 0, BitVec.twoPow 64 63⟩).sL.getLsbD i = (decide (64 - k ≤ i) && b.getLsbD i)) ∧ (runW b k ⟨sH, 0, 0, BitVec.twoPow 64 63⟩).sH = sH
  | 0, _ => ⟨fun i hi => by rw [decide_eq_false (by omega)]; simp [runW], rfl⟩
  | k + 1, hk => by
    obtain ⟨e1, e2⟩ := runW_lo b sH 0 k (by omega)
    obtain ⟨h1, h2⟩ := runW_loS b sH k (by omega)
    simp only [runW, stp, e1, e2, h2]
    exact ⟨put_bit b _ k (by omega) h1, by split <;> simp⟩
theorem runT_one (a b : BitVec 64) : (runT a b ⟨0, 0, BitVec.twoPow 64 63, 0⟩ 2).sH = a ∧ (runT a b ⟨0, 0, BitVec.twoPow 64 63, 0⟩ 2).sL = b := by
  obtain ⟨h1, h2⟩ := runW_hiS a 64 (Nat.le_refl _)
  obtain ⟨q1, q2⟩ := runW_hi64 a
  have ea : (runW a 64 ⟨0, 0, BitVec.twoPow 64 63, 0⟩).sH = a := by
    apply BitVec.eq_of_getLsbD_eq
    intro i hi
    rw [h1 i hi]; simp
  obtain ⟨h3, h4⟩ := runW_loS b a 64 (Nat.le_refl _)
  simp only [runT]
  rw [if_neg (by decide), if_neg (by decide)]
  rw [St.eta (runW a 64 ⟨0, 0, BitVec.twoPow 64 63, 0⟩), ea, h2, q1, q2]
  refine ⟨h4, ?_⟩
  apply BitVec.eq_of_getLsbD_eq
  intro i hi
  rw [h3 i hi]; simp
def one8s : Nat → UInt8 := fun j => if j = 0 then 128 else 0
def x8s : Nat → UInt8 := fun j => if j = 0 then 64 else 0
theorem prod_one (c : Nat → UInt8) (j : Nat) (hj : j < 16) : prod c one8s j = c j := by
  unfold prod prodSt
  rw [show pk one8s 8 = BitVec.twoPow 64 63 from by decide +kernel, show pk (fun j => one8s (8 + j)) 8 = 0 from by decide +kernel]
  obtain ⟨h1, h2⟩ := runT_one (pk c 8) (pk (fun j => c (8 + j)) 8)
  rw [h1, h2, upk_pk c j hj]
theorem hash_one (c : Nat → UInt8) (j : Nat) (hj : j < 16) : hashN one8s c 1 j = c j := by
  show prod (fun j => 0 ^^^ c (16 * 0 + j)) one8s j = c j
  rw [prod_one _ j hj]
  simp
theorem hash_x : ∀ j : Fin 16, hashN x8s one8s 1 j = x8s j := by decide +kernel
end Go.Proofs.YtgalgjmhdbncbaaGreat
namespace Go.Proofs.YtgalgjmhdbncbaaGreat

def cP (a b : BitVec 64) (i : Nat) : Bool := if i < 64 then a.getLsbD (63 - i) else b.getLsbD (127 - i)
def cB (f : Nat → UInt8) (i : Nat) : Bool := (f (i / 8)).toBitVec.getLsbD (7 - i % 8)
def lowP (i : Nat) : Bool := i == 0 || i == 1 || i == 2 || i == 7
def txS (c : Nat → Bool) (i : Nat) : Bool := (if i = 0 then false else c (i - 1)) ^^ (c 127 && lowP i)
def itS (c : Nat → Bool) : Nat → Nat → Bool
  | 0 => c
  | k + 1 => txS (itS c k)
def sumS (a q : Nat → Bool) : Nat → Nat → Bool
  | 0 => fun _ => false
  | k + 1 => fun i => sumS a q k i ^^ (a k && itS q k i)

theorem foldK : ∀ i : Fin 64, (16212958658533785600#64).getLsbD (63 - i.val) = lowP i.val := by decide +kernel
theorem lowP_hi (i : Nat) (h : 64 ≤ i) : lowP i = false := by
  unfold lowP
  simp
  omega
theorem tx_cP (a b : BitVec 64) (i : Nat) (hi : i < 128) : cP (txH a b) (txL a b) i = txS (cP a b) i := by
  unfold txS
  have h127 : cP a b 127 = b.getLsbD 0 := rfl
  rw [h127]
  by_cases h : i < 64
  · have e1 : cP (txH a b) (txL a b) i = (txH a b).getLsbD (63 - i) := by unfold cP; rw [if_pos h]
    have e2 : (a >>> 1).getLsbD (63 - i) = (if i = 0 then false else cP a b (i - 1)) := by
      rw [BitVec.getLsbD_ushiftRight]
      by_cases h0 : i = 0
      · rw [if_pos h0]; exact BitVec.getLsbD_of_ge _ _ (by omega)
      · rw [if_neg h0]
        unfold cP
        rw [if_pos (by omega), show 1 + (63 - i) = 63 - (i - 1) by omega]
    rw [e1, ← e2, ← foldK ⟨i, h⟩]
    unfold txH
    cases b.getLsbD 0 <;> simp
  · have e1 : cP (txH a b) (txL a b) i = (txL a b).getLsbD (127 - i) := by unfold cP; rw [if_neg h]
    rw [e1, lowP_hi i (by omega), Bool.and_false, Bool.xor_false, if_neg (by omega)]
    unfold txL
    rw [BitVec.getLsbD_or, BitVec.getLsbD_shiftLeft, BitVec.getLsbD_ushiftRight]
    by_cases h64 : i = 64
    · subst h64
      have : b.getLsbD (1 + (127 - 64)) = false := BitVec.getLsbD_of_ge _ _ (by omega)
      rw [this]
      simp [cP]
    · rw [decide_eq_true (by omega : 127 - i < 63)]
      unfold cP
      rw [if_neg (by omega), show 1 + (127 - i) = 127 - (i - 1) by omega]
      simp
theorem cP_xor (a b a' b' : BitVec 64) (i : Nat) : cP (a ^^^ a') (b ^^^ b') i = (cP a b i ^^ cP a' b' i) := by
  unfold cP
  split <;> simp
theorem txS_congr {c d : Nat → Bool} (h : ∀ i, i < 128 → c i = d i) : ∀ i, i < 128 → txS c i = txS d i := by
  intro i hi
  unfold txS
  rw [h 127 (by omega)]
  by_cases h0 : i = 0
  · rw [if_pos h0, if_pos h0]
  · rw [if_neg h0, if_neg h0, h (i - 1) (by omega)]
theorem itS_congr {c d : Nat → Bool} (h : ∀ i, i < 128 → c i = d i) : ∀ k i, i < 128 → itS c k i = itS d k i
  | 0, i, hi => h i hi
  | k + 1, i, hi => txS_congr (itS_congr h k) i hi
theorem itS_add (c : Nat → Bool) (k : Nat) : ∀ n, itS (itS c k) n = itS c (k + n)
  | 0 => rfl
  | n + 1 => by
    show txS (itS (itS c k) n) = txS (itS c (k + n))
    rw [itS_add c k n]
theorem runW_c (b : BitVec 64) : ∀ (k : Nat) (s : St), k ≤ 64 → ∀ i, i < 128 →
    cP (runW b k s).sH (runW b k s).sL i = (cP s.sH s.sL i ^^ sumS (fun t => b.getLsbD (63 - t)) (cP s.qH s.qL) k i) ∧ cP (runW b k s).qH (runW b k s).qL i = itS (cP s.qH s.qL) k i
  | 0, s, _, i, _ => ⟨by simp [runW, sumS], rfl⟩
  | k + 1, s, hk, i, hi => by
    have ih := runW_c b k s (by omega)
    have e : runW b (k + 1) s = stp (b.getLsbD (63 - k)) (runW b k s) := rfl
    rw [e]
    generalize runW b k s = z at *
    refine ⟨?_, ?_⟩
    · have h1 := (ih i hi).1
      have h2 := (ih i hi).2
      have e2 : cP (stp (b.getLsbD (63 - k)) z).sH (stp (b.getLsbD (63 - k)) z).sL i = (cP z.sH z.sL i ^^ (b.getLsbD (63 - k) && cP z.qH z.qL i)) := by
        unfold stp
        cases b.getLsbD (63 - k)
        · simp
        · simp [cP_xor]
      rw [e2, h1, h2]
      simp only [sumS, Bool.xor_assoc]
    · show cP (txH z.qH z.qL) (txL z.qH z.qL) i = txS (itS (cP s.qH s.qL) k) i
      rw [tx_cP _ _ i hi]
      exact txS_congr (fun j hj => (ih j hj).2) i hi
theorem sumS_congr {a a' q q' : Nat → Bool} : ∀ k, (∀ t, t < k → a t = a' t) → (∀ i, i < 128 → q i = q' i) → ∀ i, i < 128 → sumS a q k i = sumS a' q' k i
  | 0, _, _, _, _ => rfl
  | k + 1, ha, hq, i, hi => by
    simp only [sumS]
    rw [sumS_congr k (fun t ht => ha t (by omega)) hq i hi, ha k (by omega), itS_congr hq k i hi]
theorem sumS_split (a q : Nat → Bool) (n : Nat) : ∀ k i, sumS a q (n + k) i = (sumS a q n i ^^ sumS (fun t => a (n + t)) (itS q n) k i)
  | 0, i => by simp [sumS]
  | k + 1, i => by
    show (sumS a q (n + k) i ^^ (a (n + k) && itS q (n + k) i)) = _
    rw [sumS_split a q n k i]
    simp only [sumS, itS_add, Bool.xor_assoc]
theorem pk_cB (f : Nat → UInt8) (i : Nat) (hi : i < 128) : cP (pk f 8) (pk (fun j => f (8 + j)) 8) i = cB f i := by
  unfold cP cB
  by_cases h : i < 64
  · rw [if_pos h]
    have := pk_bit f 8 (Nat.le_refl _) (i / 8) (by omega) (7 - i % 8) (by omega)
    rwa [show 8 * (8 - 1 - i / 8) + (7 - i % 8) = 63 - i by omega] at this
  · rw [if_neg h]
    have := pk_bit (fun j => f (8 + j)) 8 (Nat.le_refl _) (i / 8 - 8) (by omega) (7 - i % 8) (by omega)
    rwa [show 8 * (8 - 1 - (i / 8 - 8)) + (7 - i % 8) = 127 - i by omega, show 8 + (i / 8 - 8) = i / 8 by omega] at this
theorem upk_cB (a b : BitVec 64) (i : Nat) (hi : i < 128) : cB (upk a b) i = cP a b i := by
  unfold cB upk cP
  by_cases h : i < 64
  · rw [if_pos h, if_pos (by omega)]
    show ((a >>> (8 * (7 - i / 8))).setWidth 8).getLsbD (7 - i % 8) = _
    rw [BitVec.getLsbD_setWidth, BitVec.getLsbD_ushiftRight, decide_eq_true (by omega : 7 - i % 8 < 8), Bool.true_and, show 8 * (7 - i / 8) + (7 - i % 8) = 63 - i by omega]
  · rw [if_neg h, if_neg (by omega)]
    show ((b >>> (8 * (15 - i / 8))).setWidth 8).getLsbD (7 - i % 8) = _
    rw [BitVec.getLsbD_setWidth, BitVec.getLsbD_ushiftRight, decide_eq_true (by omega : 7 - i % 8 < 8), Bool.true_and, show 8 * (15 - i / 8) + (7 - i % 8) = 127 - i by omega]
theorem prod_cB (f g : Nat → UInt8) (i : Nat) (hi : i < 128) : cB (prod f g) i = sumS (cB f) (cB g) 128 i := by
  unfold prod
  rw [upk_cB _ _ i hi]
  have e : prodSt f g = runW (pk (fun j => f (8 + j)) 8) 64 (runW (pk f 8) 64 ⟨0, 0, pk g 8, pk (fun j => g (8 + j)) 8⟩) := rfl
  rw [e]
  have h1 := runW_c (pk f 8) 64 ⟨0, 0, pk g 8, pk (fun j => g (8 + j)) 8⟩ (Nat.le_refl _)
  have h2 := (runW_c (pk (fun j => f (8 + j)) 8) 64 (runW (pk f 8) 64 ⟨0, 0, pk g 8, pk (fun j => g (8 + j)) 8⟩) (Nat.le_refl _) i hi).1
  rw [h2, (h1 i hi).1]
  have h0 : cP 0 0 i = false := by unfold cP; split <;> simp
  have hA : sumS (fun t => (pk f 8).getLsbD (63 - t)) (cP (pk g 8) (pk (fun j => g (8 + j)) 8)) 64 i = sumS (cB f) (cB g) 64 i := by
    refine sumS_congr 64 (fun t ht => ?_) (fun j hj => pk_cB g j hj) i hi
    rw [← pk_cB f t (by omega)]
    unfold cP
    rw [if_pos ht]
  have hB : sumS (fun t => (pk (fun j => f (8 + j)) 8).getLsbD (63 - t)) (cP (runW (pk f 8) 64 ⟨0, 0, pk g 8, pk (fun j => g (8 + j)) 8⟩).qH (runW (pk f 8) 64 ⟨0, 0, pk g 8, pk (fun j => g (8 + j)) 8⟩).qL) 64 i
      = sumS (fun t => cB f (64 + t)) (itS (cB g) 64) 64 i := by
    refine sumS_congr 64 (fun t ht => ?_) (fun j hj => ?_) i hi
    · rw [← pk_cB f (64 + t) (by omega)]
      unfold cP
      rw [if_neg (by omega), show 127 - (64 + t) = 63 - t by omega]
    · rw [(h1 j hj).2]
      exact itS_congr (fun j hj => pk_cB g j hj) 64 j hj
  rw [hA, hB, h0, Bool.false_xor]
  exact (sumS_split (cB f) (cB g) 64 64 i).symm

def rowS (a b : Nat → Bool) : Nat → Nat → Bool
  | 0 => fun _ => false
  | n + 1 => fun m => rowS a b n m ^^ (a n && (decide (n ≤ m ∧ m - n < 128) && b (m - n)))
def redS (u : Nat → Bool) : Nat → Nat → Bool
  | 0 => u
  | t + 1 => fun m => redS u t m ^^ (redS u t (255 - t) && (decide (127 - t ≤ m) && lowP (m - (127 - t))))
theorem redS_xor (u v : Nat → Bool) : ∀ t m, redS (fun m => u m ^^ v m) t m = (redS u t m ^^ redS v t m)
  | 0, _ => rfl
  | t + 1, m => by
    simp only [redS]
    rw [redS_xor u v t m, redS_xor u v t (255 - t)]
    generalize redS u t m = x1
    generalize redS v t m = x2
    generalize redS u t (255 - t) = x3
    generalize redS v t (255 - t) = x4
    generalize (decide (127 - t ≤ m) && lowP (m - (127 - t))) = x5
    revert x1 x2 x3 x4 x5
    decide
theorem redS_and (c : Bool) (u : Nat → Bool) : ∀ t m, redS (fun m => c && u m) t m = (c && redS u t m)
  | 0, _ => rfl
  | t + 1, m => by
    simp only [redS]
    rw [redS_and c u t m, redS_and c u t (255 - t)]
    cases c <;> simp
theorem redS_zero : ∀ t m, redS (fun _ => false) t m = false
  | 0, _ => rfl
  | t + 1, m => by
    simp only [redS]
    rw [redS_zero t m, redS_zero t (255 - t)]; rfl
def shS (n : Nat) (b : Nat → Bool) (m : Nat) : Bool := decide (n ≤ m ∧ m - n < 128) && b (m - n)
theorem red_rows (a b : Nat → Bool) (q : Nat → Bool) (t : Nat) (m : Nat) : ∀ n, (∀ i, i < n → redS (shS i b) t m = itS q i m) → redS (rowS a b n) t m = sumS a q n m
  | 0, _ => redS_zero t m
  | n + 1, h => by
    have e : rowS a b (n + 1) = fun m => rowS a b n m ^^ (a n && shS n b m) := rfl
    rw [e, redS_xor, redS_and, red_rows a b q t m n (fun i hi => h i (by omega)), h n (by omega)]
    rfl
def eS (n : Nat) (m : Nat) : Bool := decide (m = n)
def comb (b : Nat → Bool) (E : Nat → Nat → Bool) : Nat → Nat → Bool
  | 0 => fun _ => false
  | n + 1 => fun m => comb b E n m ^^ (b n && E n m)
theorem redS_comb (b : Nat → Bool) (E : Nat → Nat → Bool) (t m : Nat) : ∀ n, redS (comb b E n) t m = comb b (fun k => redS (E k) t) n m
  | 0 => redS_zero t m
  | n + 1 => by
    have e : comb b E (n + 1) = fun m => comb b E n m ^^ (b n && E n m) := rfl
    rw [e, redS_xor, redS_and, redS_comb b E t m n]
    rfl
theorem txS_xor (u v : Nat → Bool) (i : Nat) : txS (fun m => u m ^^ v m) i = (txS u i ^^ txS v i) := by
  unfold txS
  by_cases h : i = 0
  · simp only [if_pos h]
    cases u 127 <;> cases v 127 <;> cases lowP i <;> rfl
  · simp only [if_neg h]
    cases u 127 <;> cases v 127 <;> cases lowP i <;> cases u (i - 1) <;> cases v (i - 1) <;> rfl
theorem txS_and (c : Bool) (u : Nat → Bool) (i : Nat) : txS (fun m => c && u m) i = (c && txS u i) := by
  unfold txS
  cases c <;> simp
theorem itS_zero : ∀ k i, itS (fun _ => false) k i = false
  | 0, _ => rfl
  | k + 1, i => by
    have : itS (fun _ => false) k = fun _ => false := funext (itS_zero k)
    show txS (itS (fun _ => false) k) i = false
    rw [this]
    unfold txS
    simp
theorem itS_xor (u v : Nat → Bool) : ∀ k i, itS (fun m => u m ^^ v m) k i = (itS u k i ^^ itS v k i)
  | 0, _ => rfl
  | k + 1, i => by
    have : itS (fun m => u m ^^ v m) k = fun m => itS u k m ^^ itS v k m := funext (itS_xor u v k)
    show txS (itS (fun m => u m ^^ v m) k) i = _
    rw [this, txS_xor]; rfl
theorem itS_and (c : Bool) (u : Nat → Bool) : ∀ k i, itS (fun m => c && u m) k i = (c && itS u k i)
  | 0, _ => rfl
  | k + 1, i => by
    have : itS (fun m => c && u m) k = fun m => c && itS u k m := funext (itS_and c u k)
    show txS (itS (fun m => c && u m) k) i = _
    rw [this, txS_and]; rfl
theorem itS_comb (b : Nat → Bool) (E : Nat → Nat → Bool) (k i : Nat) : ∀ n, itS (comb b E n) k i = comb b (fun j => itS (E j) k) n i
  | 0 => itS_zero k i
  | n + 1 => by
    have e : comb b E (n + 1) = fun m => comb b E n m ^^ (b n && E n m) := rfl
    rw [e, itS_xor, itS_and, itS_comb b E k i n]
    rfl
theorem comb_congr (b : Nat → Bool) {E E' : Nat → Nat → Bool} (m : Nat) : ∀ n, (∀ k, k < n → E k m = E' k m) → comb b E n m = comb b E' n m
  | 0, _ => rfl
  | n + 1, h => by
    simp only [comb]
    rw [comb_congr b m n (fun k hk => h k (by omega)), h n (by omega)]
theorem comb_e (b : Nat → Bool) (s m : Nat) : ∀ n, comb b (fun k => eS (s + k)) n m = (decide (s ≤ m ∧ m - s < n) && b (m - s))
  | 0 => by simp [comb]
  | n + 1 => by
    simp only [comb]
    rw [comb_e b s m n]
    unfold eS
    by_cases h : m = s + n
    · subst h
      rw [show s + n - s = n by omega]
      simp
    · rw [decide_eq_false h, Bool.and_false, Bool.xor_false]
      congr 1
      rw [decide_eq_decide]
      omega
theorem sh_comb (n : Nat) (b : Nat → Bool) : shS n b = comb b (fun k => eS (n + k)) 128 := by
  funext m
  rw [comb_e]
  rfl
theorem id_comb (b : Nat → Bool) (m : Nat) (hm : m < 128) : b m = comb b (fun k => eS k) 128 m := by
  have := comb_e b 0 m 128
  simp only [Nat.zero_add] at this
  rw [this]
  simp [hm]
def redN (N : Nat) : Nat → Nat
  | 0 => N
  | t + 1 => if (redN N t).testBit (255 - t) then redN N t ^^^ (135 <<< (127 - t)) else redN N t
theorem t135 (j : Nat) : (135 : Nat).testBit j = lowP j := by
  by_cases h : j < 8
  · have : ∀ i : Fin 8, (135 : Nat).testBit i.val = lowP i.val := by decide +kernel
    exact this ⟨j, h⟩
  · rw [Nat.testBit_lt_two_pow (Nat.lt_of_lt_of_le (by decide : 135 < 2 ^ 8) (Nat.pow_le_pow_right (by omega) (by omega)))]
    unfold lowP
    simp
    omega
theorem redN_bit (N : Nat) : ∀ t m, (redN N t).testBit m = redS (fun m => N.testBit m) t m
  | 0, _ => rfl
  | t + 1, m => by
    simp only [redN, redS]
    rw [← redN_bit N t m, ← redN_bit N t (255 - t)]
    cases (redN N t).testBit (255 - t)
    · simp
    · simp [Nat.testBit_xor, Nat.testBit_shiftLeft, t135]
def itN : Nat → Nat
  | 0 => 1
  | n + 1 => if (itN n).testBit 127 then ((itN n <<< 1) % 2 ^ 128) ^^^ 135 else (itN n <<< 1) % 2 ^ 128
theorem itN_bit : ∀ n m, m < 128 → (itN n).testBit m = itS (eS 0) n m
  | 0, m, _ => by
    show (1 : Nat).testBit m = decide (m = 0)
    by_cases h : m = 0
    · subst h; rfl
    · rw [decide_eq_false h]
      exact Nat.testBit_lt_two_pow (Nat.one_lt_two_pow h)
  | n + 1, m, hm => by
    have h127 := itN_bit n 127 (by omega)
    show (itN (n + 1)).testBit m = txS (itS (eS 0) n) m
    unfold txS
    rw [← h127]
    have e : ((itN n <<< 1) % 2 ^ 128).testBit m = (if m = 0 then false else itS (eS 0) n (m - 1)) := by
      rw [Nat.testBit_mod_two_pow, decide_eq_true hm, Bool.true_and, Nat.testBit_shiftLeft]
      by_cases h0 : m = 0
      · rw [if_pos h0, decide_eq_false (by omega)]; rfl
      · rw [if_neg h0, decide_eq_true (by omega), Bool.true_and]
        exact itN_bit n (m - 1) (by omega)
    simp only [itN]
    cases (itN n).testBit 127
    · simp [e]
    · simp [Nat.testBit_xor, e, t135]
set_option maxRecDepth 100000 in
theorem red_pow : ∀ n : Fin 255, redN (2 ^ n.val) 128 % 2 ^ 128 = itN n.val % 2 ^ 128 := by decide +kernel
theorem red_e (n : Nat) (hn : n < 255) (m : Nat) (hm : m < 128) : redS (eS n) 128 m = itS (eS 0) n m := by
  have h := congrArg (fun x => x.testBit m) (red_pow ⟨n, hn⟩)
  simp only [Nat.testBit_mod_two_pow, decide_eq_true hm, Bool.true_and] at h
  rw [redN_bit, itN_bit n m hm] at h
  have hf : eS n = fun j => (2 ^ n).testBit j := by
    funext j
    rw [Nat.testBit_two_pow]
    unfold eS
    rw [decide_eq_decide]
    exact eq_comm
  rw [hf]
  exact h
theorem it_e : ∀ k, k < 128 → ∀ i, i < 128 → itS (eS 0) k i = eS k i
  | 0, _, _, _ => rfl
  | k + 1, hk, i, hi => by
    show txS (itS (eS 0) k) i = _
    rw [txS_congr (it_e k (by omega)) i hi]
    unfold txS eS
    rw [decide_eq_false (by omega : ¬ 127 = k), Bool.false_and, Bool.xor_false]
    by_cases h : i = 0
    · rw [if_pos h, decide_eq_false (by omega)]
    · rw [if_neg h, decide_eq_decide]; omega
theorem red_sh (b : Nat → Bool) (n : Nat) (hn : n < 128) (m : Nat) (hm : m < 128) : redS (shS n b) 128 m = itS b n m := by
  rw [sh_comb, redS_comb, itS_congr (fun i hi => id_comb b i hi) n m hm, itS_comb]
  refine comb_congr b m 128 (fun k hk => ?_)
  rw [red_e (n + k) (by omega) m hm, show n + k = k + n by omega, ← itS_add, itS_congr (fun i hi => it_e k hk i hi) n m hm]
theorem red_prod (f g : Nat → UInt8) (m : Nat) (hm : m < 128) : redS (rowS (cB f) (cB g) 128) 128 m = cB (prod f g) m := by
  rw [prod_cB f g m hm]
  exact red_rows (cB f) (cB g) (cB g) 128 m 128 (fun i hi => red_sh (cB g) i hi m hm)
end Go.Proofs.YtgalgjmhdbncbaaGreat
