import Derived.Test.YtgalgjmhdbncbaaGreatZu11
import Derived.Test.YtgalgjmhdbncbaaGreatZu13
import Derived.BigRegion
namespace Go.Proofs.YtgalgjmhdbncbaaGreat

def headF (alg id : Nat) (nonce : ByteArray) (n j : Nat) : UInt8 :=
  if j = 0 then 99 else if j = 1 then 103 else if j = 2 then 1 else if j = 3 then UInt8.ofNat alg else if j = 4 then UInt8.ofNat (id / 256) else if j = 5 then UInt8.ofNat id
  else if j < 18 then sf nonce (j - 6) else if j = 18 then UInt8.ofNat (n / 256) else UInt8.ofNat n
def recF (alg id : Nat) (nonce body tag : ByteArray) (j : Nat) : UInt8 :=
  if j < 20 then headF alg id nonce body.size j else if j < 20 + body.size then sf body (j - 20) else sf tag (j - 20 - body.size)
def encT (alg id : Nat) (nonce body tag : ByteArray) : ByteArray := str (36 + body.size) (recF alg id nonce body tag)
structure IsRec (alg id : Nat) (nonce body tag : ByteArray) : Prop where
  a1 : 1 ≤ alg
  a2 : alg ≤ 3
  i : id ≤ 65535
  n : nonce.size = 12
  b : body.size ≤ 200
  t : tag.size = 16
def badAt (s : ByteArray) : Option Nat :=
  if s.size = 0 ∨ sf s 0 ≠ 99 then some 0
  else if s.size ≤ 1 ∨ sf s 1 ≠ 103 then some 1
  else if s.size ≤ 2 ∨ sf s 2 ≠ 1 then some 2
  else if s.size ≤ 3 ∨ (sf s 3).toNat < 1 ∨ 3 < (sf s 3).toNat then some 3
  else if 18 < s.size ∧ sf s 18 ≠ 0 then some 18
  else if s.size < 20 then some s.size
  else if 200 < (sf s 19).toNat then some 19
  else if s.size < 36 + (sf s 19).toNat then some s.size
  else if 36 + (sf s 19).toNat < s.size then some (36 + (sf s 19).toNat)
  else none

theorem encT_size (alg id : Nat) (nonce body tag : ByteArray) : (encT alg id nonce body tag).size = 36 + body.size := str_size _ _
theorem encT_byte (alg id : Nat) (nonce body tag : ByteArray) (j : Nat) (h : j < 36 + body.size) : sf (encT alg id nonce body tag) j = recF alg id nonce body tag j := sf_str _ _ _ h
theorem head0 (a i n : Nat) (s : ByteArray) : headF a i s n 0 = 99 := rfl
theorem head1 (a i n : Nat) (s : ByteArray) : headF a i s n 1 = 103 := rfl
theorem head2 (a i n : Nat) (s : ByteArray) : headF a i s n 2 = 1 := rfl
theorem head3 (a i n : Nat) (s : ByteArray) : headF a i s n 3 = UInt8.ofNat a := rfl
theorem head4 (a i n : Nat) (s : ByteArray) : headF a i s n 4 = UInt8.ofNat (i / 256) := rfl
theorem head5 (a i n : Nat) (s : ByteArray) : headF a i s n 5 = UInt8.ofNat i := rfl
theorem head18 (a i n : Nat) (s : ByteArray) : headF a i s n 18 = UInt8.ofNat (n / 256) := rfl
theorem head19 (a i n : Nat) (s : ByteArray) : headF a i s n 19 = UInt8.ofNat n := rfl
theorem headN (a i n : Nat) (s : ByteArray) (j : Nat) (h : j < 12) : headF a i s n (6 + j) = sf s j := by
  unfold headF
  rw [if_neg (by omega), if_neg (by omega), if_neg (by omega), if_neg (by omega), if_neg (by omega), if_neg (by omega), if_pos (by omega), Nat.add_sub_cancel_left]
theorem recF_head (alg id : Nat) (nonce body tag : ByteArray) (j : Nat) (h : j < 20) : recF alg id nonce body tag j = headF alg id nonce body.size j := if_pos h
theorem byte_nat (n : Nat) (h : n < 256) : (UInt8.ofNat n).toNat = n := by rw [UInt8.toNat_ofNat']; omega

theorem encT_cat (alg id : Nat) (nonce body tag : ByteArray) (hn : nonce.size = 12) (ht : tag.size = 16) :
    (⟨#[99, 103]⟩ : ByteArray) ++ numT 1 1 ++ numT alg 1 ++ numT id 2 ++ nonce ++ numT body.size 2 ++ body ++ tag = encT alg id nonce body tag := by
  have h2 : (⟨#[99, 103]⟩ : ByteArray).size = 2 := rfl
  have n1 : ∀ v, sf (numT v 1) 0 = UInt8.ofNat v := by
    intro v
    have : sf (numT v 1) 0 = numF v 1 0 := sf_str _ _ _ (by omega)
    rw [this]; unfold numF; simp
  have n20 : ∀ v, sf (numT v 2) 0 = UInt8.ofNat (v / 256) := by
    intro v
    have : sf (numT v 2) 0 = numF v 2 0 := sf_str _ _ _ (by omega)
    rw [this]; unfold numF; simp
  have n21 : ∀ v, sf (numT v 2) 1 = UInt8.ofNat v := by
    intro v
    have : sf (numT v 2) 1 = numF v 2 1 := sf_str _ _ _ (by omega)
    rw [this]; unfold numF; simp
  apply bytes_ext
  · simp only [ByteArray.size_append, numT_size, encT_size, h2, hn, ht]
    omega
  · intro j hj
    simp only [ByteArray.size_append, numT_size, h2, hn, ht] at hj
    rw [encT_byte _ _ _ _ _ _ (by omega)]
    by_cases hB : j < 20
    · rw [recF_head _ _ _ _ _ _ hB]
      simp only [sf_append, ByteArray.size_append, numT_size, h2, hn]
      rw [if_pos (by omega : j < 2 + 1 + 1 + 2 + 12 + 2 + body.size), if_pos (by omega : j < 2 + 1 + 1 + 2 + 12 + 2)]
      rcases (by omega : j = 0 ∨ j = 1 ∨ j = 2 ∨ j = 3 ∨ j = 4 ∨ j = 5 ∨ (6 ≤ j ∧ j < 18) ∨ j = 18 ∨ j = 19) with h | h | h | h | h | h | h | h | h
      · subst h; rfl
      · subst h; rfl
      · subst h; rw [head2]; simp [n1]
      · subst h; rw [head3]; simp [n1]
      · subst h; rw [head4]; simp [n20]
      · subst h; rw [head5]; simp [n21]
      · have e := headN alg id body.size nonce (j - 6) (by omega)
        rw [show 6 + (j - 6) = j by omega] at e
        rw [e, if_pos (by omega), if_neg (by omega)]
      · subst h; rw [head18]; simp [n20]
      · subst h; rw [head19]; simp [n21]
    · by_cases hC : j < 20 + body.size
      · have hr : recF alg id nonce body tag j = sf body (j - 20) := by unfold recF; rw [if_neg hB, if_pos hC]
        rw [hr]
        simp only [sf_append, ByteArray.size_append, numT_size, h2, hn]
        rw [if_pos (by omega), if_neg (by omega)]
      · have hr : recF alg id nonce body tag j = sf tag (j - 20 - body.size) := by unfold recF; rw [if_neg hB, if_neg hC]
        rw [hr]
        simp only [sf_append, ByteArray.size_append, numT_size, h2, hn]
        rw [if_neg (by omega)]
        congr 1
        omega

theorem bad_like {alg id : Nat} {nonce body tag : ByteArray} (R : IsRec alg id nonce body tag) (s : ByteArray) (n : Nat) (_hn : n ≤ 36 + body.size) (hs : n ≤ s.size) (hb : ∀ j, j < n → sf s j = recF alg id nonce body tag j) (hc : s.size = n ∨ n = 36 + body.size) :
    badAt s = if s.size < 36 + body.size then some s.size else if 36 + body.size < s.size then some (36 + body.size) else none := by
  have ra := R.a1
  have ra2 := R.a2
  have rb := R.b
  have e0 : 0 < n → sf s 0 = 99 := fun h => (hb 0 h).trans rfl
  have e1 : 1 < n → sf s 1 = 103 := fun h => (hb 1 h).trans rfl
  have e2 : 2 < n → sf s 2 = 1 := fun h => (hb 2 h).trans rfl
  have e3 : 3 < n → (sf s 3).toNat = alg := fun h => by rw [hb 3 h, recF_head _ _ _ _ _ _ (by omega), head3, byte_nat _ (by omega)]
  have e18 : 18 < n → sf s 18 = 0 := fun h => by
    rw [hb 18 h, recF_head _ _ _ _ _ _ (by omega), head18, show body.size / 256 = 0 by omega]
    rfl
  have e19 : 19 < n → (sf s 19).toNat = body.size := fun h => by rw [hb 19 h, recF_head _ _ _ _ _ _ (by omega), head19, byte_nat _ (by omega)]
  clear hb
  unfold badAt
  by_cases h0 : s.size = 0
  · rw [if_pos (Or.inl h0), if_pos (by omega), h0]
  rw [if_neg (by rintro (h | h); exact h0 h; exact h (e0 (by omega)))]
  by_cases h1 : s.size ≤ 1
  · rw [if_pos (Or.inl h1), if_pos (by omega)]
    congr 1
    omega
  rw [if_neg (by rintro (h | h); exact h1 h; exact h (e1 (by omega)))]
  by_cases h2 : s.size ≤ 2
  · rw [if_pos (Or.inl h2), if_pos (by omega)]
    congr 1
    omega
  rw [if_neg (by rintro (h | h); exact h2 h; exact h (e2 (by omega)))]
  by_cases h3 : s.size ≤ 3
  · rw [if_pos (Or.inl h3), if_pos (by omega)]
    congr 1
    omega
  have e3' := e3 (by omega)
  rw [if_neg (by omega)]
  by_cases h18 : 18 < s.size
  · rw [if_neg (by rintro ⟨_, h⟩; exact h (e18 (by omega)))]
    by_cases h20 : s.size < 20
    · rw [if_pos h20, if_pos (by omega)]
    · have e19' := e19 (by omega)
      rw [if_neg h20, e19', if_neg (by omega)]
  · rw [if_neg (by rintro ⟨h, _⟩; exact h18 h), if_pos (by omega), if_pos (by omega)]
theorem bad_enc {alg id : Nat} {nonce body tag : ByteArray} (R : IsRec alg id nonce body tag) : badAt (encT alg id nonce body tag) = none := by
  rw [bad_like R _ (36 + body.size) (Nat.le_refl _) (by rw [encT_size]; omega) (fun j hj => encT_byte _ _ _ _ _ _ hj) (Or.inr rfl), encT_size, if_neg (by omega), if_neg (by omega)]
theorem bad_cut {alg id : Nat} {nonce body tag : ByteArray} (R : IsRec alg id nonce body tag) (n : Nat) (hn : n < 36 + body.size) : badAt ((encT alg id nonce body tag).extract 0 n) = some n := by
  have hz : ((encT alg id nonce body tag).extract 0 n).size = n := by rw [cut_size _ _ _ (by rw [encT_size]; omega)]; omega
  rw [bad_like R _ n (by omega) (by omega) ?_ (Or.inl hz), hz, if_pos hn]
  intro j hj
  rw [sf_cut _ _ _ _ (by rw [encT_size]; omega) (by omega), Nat.zero_add]
  exact encT_byte _ _ _ _ _ _ (by omega)
theorem bad_more {alg id : Nat} {nonce body tag : ByteArray} (R : IsRec alg id nonce body tag) (x : ByteArray) (hx : 0 < x.size) : badAt (encT alg id nonce body tag ++ x) = some (36 + body.size) := by
  rw [bad_like R _ (36 + body.size) (Nat.le_refl _) (by rw [ByteArray.size_append, encT_size]; omega) ?_ (Or.inr rfl), ByteArray.size_append, encT_size, if_neg (by omega), if_pos (by omega)]
  intro j hj
  rw [sf_append, encT_size, if_pos hj]
  exact encT_byte _ _ _ _ _ _ hj
theorem read_alg {alg id : Nat} {nonce body tag : ByteArray} (R : IsRec alg id nonce body tag) : (sf (encT alg id nonce body tag) 3).toNat = alg := by
  have := R.a2
  rw [encT_byte _ _ _ _ _ _ (by omega), recF_head _ _ _ _ _ _ (by omega), head3, byte_nat _ (by omega)]
theorem read_id {alg id : Nat} {nonce body tag : ByteArray} (R : IsRec alg id nonce body tag) : valF (sf (encT alg id nonce body tag)) 4 2 = id := by
  have := R.i
  simp only [valF]
  rw [encT_byte _ _ _ _ _ _ (by omega), encT_byte _ _ _ _ _ _ (by omega), recF_head _ _ _ _ _ _ (by omega), recF_head _ _ _ _ _ _ (by omega), head4, head5, byte_nat _ (by omega), UInt8.toNat_ofNat']
  omega
theorem read_len {alg id : Nat} {nonce body tag : ByteArray} (R : IsRec alg id nonce body tag) : (sf (encT alg id nonce body tag) 19).toNat = body.size := by
  have := R.b
  rw [encT_byte _ _ _ _ _ _ (by omega), recF_head _ _ _ _ _ _ (by omega), head19, byte_nat _ (by omega)]
theorem read_nonce {alg id : Nat} {nonce body tag : ByteArray} (R : IsRec alg id nonce body tag) : (encT alg id nonce body tag).extract 6 18 = nonce := by
  have hz : ((encT alg id nonce body tag).extract 6 18).size = 12 := by rw [cut_size _ _ _ (by rw [encT_size]; omega)]
  apply bytes_ext
  · rw [hz, R.n]
  · intro j hj
    rw [hz] at hj
    rw [sf_cut _ _ _ _ (by rw [encT_size]; omega) (by omega), encT_byte _ _ _ _ _ _ (by omega), recF_head _ _ _ _ _ _ (by omega), headN _ _ _ _ _ hj]
theorem read_body {alg id : Nat} {nonce body tag : ByteArray} : (encT alg id nonce body tag).extract 20 (20 + body.size) = body := by
  have hz : ((encT alg id nonce body tag).extract 20 (20 + body.size)).size = body.size := by rw [cut_size _ _ _ (by rw [encT_size]; omega)]; omega
  apply bytes_ext
  · rw [hz]
  · intro j hj
    rw [hz] at hj
    rw [sf_cut _ _ _ _ (by rw [encT_size]; omega) (by omega), encT_byte _ _ _ _ _ _ (by omega)]
    unfold recF
    rw [if_neg (by omega), if_pos (by omega), Nat.add_sub_cancel_left]
theorem read_tag {alg id : Nat} {nonce body tag : ByteArray} (R : IsRec alg id nonce body tag) : (encT alg id nonce body tag).extract (20 + body.size) (36 + body.size) = tag := by
  have hz : ((encT alg id nonce body tag).extract (20 + body.size) (36 + body.size)).size = 16 := by rw [cut_size _ _ _ (by rw [encT_size]; omega)]; omega
  apply bytes_ext
  · rw [hz, R.t]
  · intro j hj
    rw [hz] at hj
    rw [sf_cut _ _ _ _ (by rw [encT_size]; omega) (by omega), encT_byte _ _ _ _ _ _ (by omega)]
    unfold recF
    rw [if_neg (by omega), if_neg (by omega)]
    congr 1
    omega
theorem bad_le (s : ByteArray) (p : Nat) (h : badAt s = some p) : p ≤ s.size := by
  unfold badAt at h
  split at h
  · simp only [Option.some.injEq] at h; omega
  · rename_i h0
    split at h
    · simp only [Option.some.injEq] at h; omega
    · rename_i h1
      split at h
      · simp only [Option.some.injEq] at h; omega
      · rename_i h2
        split at h
        · simp only [Option.some.injEq] at h; omega
        · rename_i h3
          split at h
          · simp only [Option.some.injEq] at h; omega
          · split at h
            · simp only [Option.some.injEq] at h; omega
            · split at h
              · simp only [Option.some.injEq] at h; omega
              · split at h
                · simp only [Option.some.injEq] at h; omega
                · split at h
                  · simp only [Option.some.injEq] at h; omega
                  · cases h
structure Reads (s : ByteArray) : Prop where
  z : s.size = 36 + (sf s 19).toNat
  r : IsRec (sf s 3).toNat (valF (sf s) 4 2) (s.extract 6 18) (s.extract 20 (20 + (sf s 19).toNat)) (s.extract (20 + (sf s 19).toNat) (36 + (sf s 19).toNat))
  e : encT (sf s 3).toNat (valF (sf s) 4 2) (s.extract 6 18) (s.extract 20 (20 + (sf s 19).toNat)) (s.extract (20 + (sf s 19).toNat) (36 + (sf s 19).toNat)) = s
theorem bad_none (s : ByteArray) (h : badAt s = none) : Reads s := by
  unfold badAt at h
  split at h
  · cases h
  · rename_i h0
    split at h
    · cases h
    · rename_i h1
      split at h
      · cases h
      · rename_i h2
        split at h
        · cases h
        · rename_i h3
          split at h
          · cases h
          · rename_i h18
            split at h
            · cases h
            · rename_i h20
              split at h
              · cases h
              · rename_i h19
                split at h
                · cases h
                · rename_i hl
                  split at h
                  · cases h
                  · rename_i hg
                    clear h
                    have hz : s.size = 36 + (sf s 19).toNat := by omega
                    have b0 : sf s 0 = 99 := Decidable.byContradiction fun e => h0 (Or.inr e)
                    have b1 : sf s 1 = 103 := Decidable.byContradiction fun e => h1 (Or.inr e)
                    have b2 : sf s 2 = 1 := Decidable.byContradiction fun e => h2 (Or.inr e)
                    have b18 : sf s 18 = 0 := Decidable.byContradiction fun e => h18 ⟨by omega, e⟩
                    have l4 := (sf s 4).toNat_lt
                    have l5 := (sf s 5).toNat_lt
                    have hv : valF (sf s) 4 2 = (sf s 4).toNat * 256 + (sf s 5).toNat := by simp [valF]
                    have hb : (s.extract 20 (20 + (sf s 19).toNat)).size = (sf s 19).toNat := by rw [cut_size _ _ _ (by omega)]; omega
                    refine ⟨hz, ⟨by omega, by omega, by omega, by rw [cut_size _ _ _ (by omega)], by omega, by rw [cut_size _ _ _ (by omega)]; omega⟩, ?_⟩
                    apply bytes_ext
                    · rw [encT_size, hb, hz]
                    · intro j hj
                      rw [encT_size, hb] at hj
                      rw [encT_byte _ _ _ _ _ _ (by rw [hb]; exact hj)]
                      unfold recF
                      rw [hb]
                      by_cases hB : j < 20
                      · rw [if_pos hB]
                        rcases (by omega : j = 0 ∨ j = 1 ∨ j = 2 ∨ j = 3 ∨ j = 4 ∨ j = 5 ∨ (6 ≤ j ∧ j < 18) ∨ j = 18 ∨ j = 19) with h | h | h | h | h | h | h | h | h
                        · subst h; rw [head0, b0]
                        · subst h; rw [head1, b1]
                        · subst h; rw [head2, b2]
                        · subst h; rw [head3, UInt8.ofNat_toNat]
                        · subst h; rw [head4, hv, show ((sf s 4).toNat * 256 + (sf s 5).toNat) / 256 = (sf s 4).toNat by omega, UInt8.ofNat_toNat]
                        · subst h
                          rw [head5, hv]
                          apply UInt8.toNat_inj.1
                          rw [UInt8.toNat_ofNat']
                          omega
                        · have e := headN (sf s 3).toNat (valF (sf s) 4 2) (sf s 19).toNat (s.extract 6 18) (j - 6) (by omega)
                          rw [show 6 + (j - 6) = j by omega] at e
                          rw [e, sf_cut _ _ _ _ (by omega) (by omega), show 6 + (j - 6) = j by omega]
                        · subst h
                          rw [head18, b18, show (sf s 19).toNat / 256 = 0 by omega]
                          rfl
                        · subst h; rw [head19, UInt8.ofNat_toNat]
                      · rw [if_neg hB]
                        by_cases hC : j < 20 + (sf s 19).toNat
                        · rw [if_pos hC, sf_cut _ _ _ _ (by omega) (by omega), show 20 + (j - 20) = j by omega]
                        · rw [if_neg hC, sf_cut _ _ _ _ (by omega) (by omega), show 20 + (sf s 19).toNat + (j - 20 - (sf s 19).toNat) = j by omega]
end Go.Proofs.YtgalgjmhdbncbaaGreat
namespace Go.Proofs.YtgalgjmhdbncbaaGreat
open Go.RowKit
attribute [local go_sem ↓] Go.wp_at_zero Go.wp_at_succ

set_option maxHeartbeats 400000 in
theorem sizes_no (a : Int) (h : ¬ (1 ≤ a ∧ a ≤ 3)) (w : World) : Calls Tryz.prog 110 #[.int .i64 a] w fun e w' => e = .returned (.tuple #[.int .i64 0, .int .i64 0]) ∧ w' = w := by
  have h1 : (a == 1) = false := by rw [beq_eq_false_iff_ne]; omega
  have h2 : (a == 2) = false := by rw [beq_eq_false_iff_ne]; omega
  have h3 : (a == 3) = false := by rw [beq_eq_false_iff_ne]; omega
  clear h
  go_enter Tryz.func110, Tryz.ntmps110
  go_wp2
  go_ret2
  exact ⟨rfl, rfl⟩
set_option maxHeartbeats 400000 in
theorem isAlg_any (a : Int) (w : World) : Calls Tryz.prog 141 #[.int .i64 a] w fun e w' => e = .returned (.bool (decide (1 ≤ a ∧ a ≤ 3))) ∧ w' = w := by
  by_cases h : 1 ≤ a ∧ a ≤ 3
  · rw [decide_eq_true h]
    obtain ⟨k, rfl⟩ : ∃ k : Nat, a = k := ⟨a.toNat, by omega⟩
    have h1 : 1 ≤ k := by omega
    have h2 : k ≤ 3 := by omega
    have hpos : decide ((0 : Int) < 8 + 8 * (k : Int)) = true := decide_eq_true (by omega)
    clear h
    go_enter Tryz.func141, Tryz.ntmps141
    go_wp2_with fail
    refine (sizes_any k h1 h2 _).mono ?_
    rintro e w1 ⟨rfl, hw⟩
    subst hw
    go_wp2
    go_ret
    exact ⟨rfl, rfl⟩
  · rw [decide_eq_false h]
    have H : Hid _ := h
    clear h
    go_enter Tryz.func141, Tryz.ntmps141
    go_wp2_with fail
    refine (sizes_no a H.out _).mono ?_
    rintro e w1 ⟨rfl, hw⟩
    subst hw
    go_wp2
    go_ret
    exact ⟨rfl, rfl⟩
set_option maxHeartbeats 400000 in
theorem length_any (n : Nat) (hn : n ≤ 100000) (w : World) : Calls Tryz.prog 122 #[.int .i64 n] w fun e w' => e = .returned (.int .i64 ((36 + n : Nat) : Int)) ∧ w' = w := by
  have HE : Hid ((((36 + n : Nat)) : Int) = 20 + (n : Int) + 16) := by show _ = _; omega
  go_enter Tryz.func122, Tryz.ntmps122
  go_wp2
  go_ret
  exact ⟨by rw [HE.out]; rfl, rfl⟩
def recV (a i : Int) (n b t : ByteArray) : Value := .agg #[.int .i64 a, .int .i64 i, .string n, .string b, .string t]
def RecOk (a i : Int) (n b t : ByteArray) : Prop := (1 ≤ a ∧ a ≤ 3) ∧ 0 ≤ i ∧ i ≤ 65535 ∧ n.size = 12 ∧ b.size ≤ 200 ∧ t.size = 16
set_option maxRecDepth 100000 in
set_option maxHeartbeats 1000000 in
theorem right_yes (a i : Int) (n b t : ByteArray) (h : RecOk a i n b t) (w : World) :
    Calls Tryz.prog 119 #[recV a i n b t] w fun e w' => e = .returned (.bool true) ∧ Below w.heap.size w w' := by
  obtain ⟨ha, h1, h2, h3, h4, h5⟩ := h
  have hd : decide (1 ≤ a ∧ a ≤ 3) = true := decide_eq_true ha
  have c3 : ((n.size : Int) == 12) = true := by rw [h3]; rfl
  have c5 : ((t.size : Int) == 16) = true := by rw [h5]; rfl
  unfold recV
  clear ha h3 h5
  go_enter Tryz.func119, Tryz.ntmps119
  go_wp2_with (go_at_call 141; refine (isAlg_any _ _).mono ?_; rintro e w1 ⟨rfl, hw⟩; rw [hw])
  go_ret
  exact ⟨rfl, (Below.refl _ _).alloc (Nat.le_refl _) _⟩
set_option maxRecDepth 100000 in
set_option maxHeartbeats 2000000 in
theorem right_no (a i : Int) (n b t : ByteArray) (h : ¬ RecOk a i n b t) (hb : b.size ≤ maxLen) (w : World) :
    Calls Tryz.prog 119 #[recV a i n b t] w fun e w' => e = .returned (.bool false) ∧ Below w.heap.size w w' := by
  unfold maxLen at hb
  unfold RecOk at h
  unfold recV
  by_cases h0 : 1 ≤ a ∧ a ≤ 3
  case neg =>
    have hd : decide (1 ≤ a ∧ a ≤ 3) = false := decide_eq_false h0
    clear h h0
    go_enter Tryz.func119, Tryz.ntmps119
    go_wp2_with (go_at_call 141; refine (isAlg_any _ _).mono ?_; rintro e w1 ⟨rfl, hw⟩; rw [hw])
    go_ret
    exact ⟨rfl, (Below.refl _ _).alloc (Nat.le_refl _) _⟩
  have hd : decide (1 ≤ a ∧ a ≤ 3) = true := decide_eq_true h0
  by_cases h1 : 0 ≤ i
  case neg =>
    clear h h0
    go_enter Tryz.func119, Tryz.ntmps119
    go_wp2_with (go_at_call 141; refine (isAlg_any _ _).mono ?_; rintro e w1 ⟨rfl, hw⟩; rw [hw])
    go_ret
    exact ⟨rfl, (Below.refl _ _).alloc (Nat.le_refl _) _⟩
  by_cases h2 : i ≤ 65535
  case neg =>
    clear h h0
    go_enter Tryz.func119, Tryz.ntmps119
    go_wp2_with (go_at_call 141; refine (isAlg_any _ _).mono ?_; rintro e w1 ⟨rfl, hw⟩; rw [hw])
    go_ret
    exact ⟨rfl, (Below.refl _ _).alloc (Nat.le_refl _) _⟩
  by_cases h3 : n.size = 12
  case neg =>
    have c3 : ((n.size : Int) == 12) = false := by rw [beq_eq_false_iff_ne]; omega
    clear h h0 h3
    go_enter Tryz.func119, Tryz.ntmps119
    go_wp2_with (go_at_call 141; refine (isAlg_any _ _).mono ?_; rintro e w1 ⟨rfl, hw⟩; rw [hw])
    go_ret
    exact ⟨rfl, (Below.refl _ _).alloc (Nat.le_refl _) _⟩
  have c3 : ((n.size : Int) == 12) = true := by rw [h3]; rfl
  by_cases h4 : b.size ≤ 200
  case neg =>
    clear h h0 h3
    go_enter Tryz.func119, Tryz.ntmps119
    go_wp2_with (go_at_call 141; refine (isAlg_any _ _).mono ?_; rintro e w1 ⟨rfl, hw⟩; rw [hw])
    go_ret
    exact ⟨rfl, (Below.refl _ _).alloc (Nat.le_refl _) _⟩
  by_cases h5 : t.size = 16
  case neg =>
    have c5 : ((t.size : Int) == 16) = false := by rw [beq_eq_false_iff_ne]; omega
    clear h h0 h3 h5
    go_enter Tryz.func119, Tryz.ntmps119
    go_wp2_with (go_at_call 141; refine (isAlg_any _ _).mono ?_; rintro e w1 ⟨rfl, hw⟩; rw [hw])
    go_ret
    exact ⟨rfl, (Below.refl _ _).alloc (Nat.le_refl _) _⟩
  exact absurd ⟨h0, h1, h2, h3, h4, h5⟩ h
end Go.Proofs.YtgalgjmhdbncbaaGreat
