import Derived.Test.YtgalgjmhdbncbaaM5
import Derived.Test.YtgalgjmhdbncbaaM2
import Derived.Test.YtgalgjmhdbncbaaN0
namespace Go.Proofs.Ytgalgjmhdbncbaa

/-! ### sealing, by the document: no program's text is named here -/
/-- H -/
def hK (key : ByteArray) : Nat → UInt8 := aesF (sf key) (fun _ => 0) key.size
def nonceT (nonce : ByteArray) : ByteArray := padT nonce ++ numT 0 8 ++ numT (8 * nonce.size) 8
/-- J -/
def firstF (key nonce : ByteArray) : Nat → UInt8 :=
  if nonce.size = 12 then sf (nonce ++ numT 1 4) else hashN (hK key) (sf (nonceT nonce)) ((nonceT nonce).size / 16)
/-- J + i -/
def ctrF (J : Nat → UInt8) (i j : Nat) : UInt8 := if j < 12 then J j else numF ((valF J 12 4 + i) % 4294967296) 4 (j - 12)
def streamF (key : ByteArray) (J : Nat → UInt8) (m : Nat) : UInt8 := aesF (sf key) (ctrF J (m / 16 + 1)) key.size (m % 16)
def maskT (key : ByteArray) (J : Nat → UInt8) (s : ByteArray) : ByteArray := str s.size fun j => sf s j ^^^ streamF key J j
def tagT (more body : ByteArray) : ByteArray := padT more ++ padT body ++ numT (8 * more.size) 8 ++ numT (8 * body.size) 8
def tagF (key : ByteArray) (J : Nat → UInt8) (more body : ByteArray) (j : Nat) : UInt8 := hashN (hK key) (sf (tagT more body)) ((tagT more body).size / 16) j ^^^ aesF (sf key) J key.size j
def sealT (key nonce more plain : ByteArray) : ByteArray := maskT key (firstF key nonce) plain ++ str 16 (tagF key (firstF key nonce) more (maskT key (firstF key nonce) plain))

theorem nonceT_size (s : ByteArray) : (nonceT s).size = up16 s.size + 16 := by
  unfold nonceT
  rw [ByteArray.size_append, ByteArray.size_append, padT_size, numT_size, numT_size]
theorem tagT_size (m b : ByteArray) : (tagT m b).size = up16 m.size + up16 b.size + 16 := by
  unfold tagT
  rw [ByteArray.size_append, ByteArray.size_append, ByteArray.size_append, padT_size, padT_size, numT_size, numT_size]
theorem maskT_size (key : ByteArray) (J : Nat → UInt8) (s : ByteArray) : (maskT key J s).size = s.size := str_size _ _
theorem sealT_size (key nonce more plain : ByteArray) : (sealT key nonce more plain).size = plain.size + 16 := by
  unfold sealT
  rw [ByteArray.size_append, maskT_size, str_size]
theorem maskT_mask (key : ByteArray) (J : Nat → UInt8) (s : ByteArray) : maskT key J (maskT key J s) = s := by
  apply bytes_ext
  · rw [maskT_size, maskT_size]
  · intro j hj
    rw [maskT_size, maskT_size] at hj
    have h1 : sf (maskT key J s) j = sf s j ^^^ streamF key J j := sf_str _ _ _ hj
    have h2 : sf (maskT key J (maskT key J s)) j = sf (maskT key J s) j ^^^ streamF key J j := sf_str _ _ _ (by rw [maskT_size]; exact hj)
    rw [h2, h1, UInt8.xor_assoc, UInt8.xor_self, UInt8.xor_zero]
/-- two texts masked by one key and one nonce: what each is xored with is the same -/
theorem maskT_xor (key : ByteArray) (J : Nat → UInt8) (s : ByteArray) (j : Nat) (h : j < s.size) : sf (maskT key J s) j ^^^ sf s j = streamF key J j := by
  have h1 : sf (maskT key J s) j = sf s j ^^^ streamF key J j := sf_str _ _ _ h
  rw [h1, UInt8.xor_comm, ← UInt8.xor_assoc, UInt8.xor_self, UInt8.zero_xor]

theorem sealT_body (key nonce more plain : ByteArray) : (sealT key nonce more plain).extract 0 plain.size = maskT key (firstF key nonce) plain := by
  apply bytes_ext
  · rw [cut_size _ _ _ (by rw [sealT_size]; omega), maskT_size]; omega
  · intro j hj
    rw [cut_size _ _ _ (by rw [sealT_size]; omega)] at hj
    rw [sf_cut _ _ _ _ (by rw [sealT_size]; omega) (by omega)]
    unfold sealT
    rw [sf_append, maskT_size, if_pos (by omega), Nat.zero_add]
theorem sealT_tag (key nonce more plain : ByteArray) : (sealT key nonce more plain).extract plain.size (plain.size + 16) = str 16 (tagF key (firstF key nonce) more (maskT key (firstF key nonce) plain)) := by
  apply bytes_ext
  · rw [cut_size _ _ _ (by rw [sealT_size]; omega), str_size]; omega
  · intro j hj
    rw [cut_size _ _ _ (by rw [sealT_size]; omega)] at hj
    rw [sf_cut _ _ _ _ (by rw [sealT_size]; omega) (by omega)]
    unfold sealT
    rw [sf_append, maskT_size, if_neg (by omega), Nat.add_sub_cancel_left]
/-- what is sealed is that of some text just when its tag is right -/
theorem sealT_open (key nonce more sealed : ByteArray) (h : 16 ≤ sealed.size) :
    sealT key nonce more (maskT key (firstF key nonce) (sealed.extract 0 (sealed.size - 16))) = sealed ↔
      str 16 (tagF key (firstF key nonce) more (sealed.extract 0 (sealed.size - 16))) = sealed.extract (sealed.size - 16) sealed.size := by
  have hsz : (sealed.extract 0 (sealed.size - 16)).size = sealed.size - 16 := by rw [cut_size _ _ _ (by omega)]; omega
  have hc : sealed = sealed.extract 0 (sealed.size - 16) ++ sealed.extract (sealed.size - 16) sealed.size := by
    apply bytes_ext
    · rw [ByteArray.size_append, hsz, cut_size _ _ _ (by omega)]; omega
    · intro j hj
      rw [sf_append, hsz]
      by_cases h1 : j < sealed.size - 16
      · rw [if_pos h1, sf_cut _ _ _ _ (by omega) (by omega), Nat.zero_add]
      · rw [if_neg h1, sf_cut _ _ _ _ (by omega) (by omega)]
        congr 1
        omega
  unfold sealT
  rw [maskT_mask]
  constructor
  · intro e
    have e2 := congrArg (fun s : ByteArray => s.extract (sealed.size - 16) sealed.size) e
    rw [← e2]
    apply bytes_ext
    · rw [str_size, cut_size _ _ _ (by rw [ByteArray.size_append, hsz, str_size]; omega)]; omega
    · intro j hj
      rw [str_size] at hj
      rw [sf_cut _ _ _ _ (by rw [ByteArray.size_append, hsz, str_size]; omega) (by omega), sf_append, hsz, if_neg (by omega), Nat.add_sub_cancel_left]
  · intro e
    rw [e]
    exact hc.symm

/-! ### changed in one byte -/
def turnT (s : ByteArray) (p : Nat) (d : UInt8) : ByteArray := str s.size fun j => if j = p then sf s j ^^^ d else sf s j
theorem turnT_size (s : ByteArray) (p : Nat) (d : UInt8) : (turnT s p d).size = s.size := str_size _ _
theorem turnT_at (s : ByteArray) (p : Nat) (d : UInt8) (h : p < s.size) (hd : d ≠ 0) : sf (turnT s p d) p ≠ sf s p := by
  unfold turnT
  rw [sf_str _ _ _ h, if_pos rfl]
  intro e
  apply hd
  have : (sf s p ^^^ d) ^^^ sf s p = sf s p ^^^ sf s p := by rw [e]
  rwa [UInt8.xor_comm (sf s p) d, UInt8.xor_assoc, UInt8.xor_self, UInt8.xor_zero] at this
theorem turnT_other (s : ByteArray) (p : Nat) (d : UInt8) (j : Nat) (h : j ≠ p) : sf (turnT s p d) j = sf s j := by
  by_cases hj : j < s.size
  · unfold turnT
    rw [sf_str _ _ _ hj, if_neg h]
  · rw [sf_past _ _ (by rw [turnT_size]; omega), sf_past _ _ (by omega)]
theorem padT_byte (s : ByteArray) (j : Nat) : sf (padT s) j = sf s j := by
  by_cases h : j < up16 s.size
  · exact sf_str _ _ _ h
  · rw [sf_past _ _ (by rw [padT_size]; omega), sf_past _ _ (by have := up16_le s.size; omega)]
theorem hash_turned (h S T : Nat → UInt8) (q k : Nat) (hq : q < 16 * k) (hh : ¬ ∀ j, j < 16 → h j = 0) (hne : S q ≠ T q) (hs : ∀ j, j < 16 * k → j ≠ q → S j = T j) :
    ¬ ∀ j, j < 16 → hashN h S k j = hashN h T k j := by
  refine hash_parts h S T (q / 16) k (by omega) hh ?_ ?_
  · intro e
    have := e (q % 16) (by omega)
    rw [show 16 * (q / 16) + q % 16 = q by omega] at this
    exact hne this
  · intro t j ht hti hj
    exact hs _ (by omega) (by omega)
theorem hash_turned_text (h : Nat → UInt8) (S T : ByteArray) (q : Nat) (hsz : S.size = T.size) (hm : S.size % 16 = 0) (hq : q < S.size) (hh : ¬ ∀ j, j < 16 → h j = 0) (hne : sf S q ≠ sf T q) (hs : ∀ j, j ≠ q → sf S j = sf T j) :
    ¬ ∀ j, j < 16 → hashN h (sf S) (S.size / 16) j = hashN h (sf T) (T.size / 16) j := by
  rw [← hsz]
  exact hash_turned h _ _ q _ (by omega) hh hne (fun j _ hj => hs j hj)
theorem tag_hash_ne (key : ByteArray) (J : Nat → UInt8) (m b m' b' : ByteArray) (h : ¬ ∀ j, j < 16 → hashN (hK key) (sf (tagT m b)) ((tagT m b).size / 16) j = hashN (hK key) (sf (tagT m' b')) ((tagT m' b').size / 16) j) :
    str 16 (tagF key J m b) ≠ str 16 (tagF key J m' b') := by
  intro e
  apply h
  intro j hj
  have e2 := congrArg (fun s => sf s j) e
  rw [sf_str _ _ _ hj, sf_str _ _ _ hj] at e2
  unfold tagF at e2
  generalize hashN (hK key) (sf (tagT m b)) ((tagT m b).size / 16) j = x at *
  generalize hashN (hK key) (sf (tagT m' b')) ((tagT m' b').size / 16) j = y at *
  generalize aesF (sf key) J key.size j = z at *
  have : (x ^^^ z) ^^^ z = (y ^^^ z) ^^^ z := by rw [e2]
  rwa [UInt8.xor_assoc, UInt8.xor_self, UInt8.xor_zero, UInt8.xor_assoc, UInt8.xor_self, UInt8.xor_zero] at this
theorem tag_more (key : ByteArray) (J : Nat → UInt8) (m b : ByteArray) (p : Nat) (d : UInt8) (hp : p < m.size) (hd : d ≠ 0) (hh : ¬ ∀ j, j < 16 → hK key j = 0) :
    str 16 (tagF key J (turnT m p d) b) ≠ str 16 (tagF key J m b) := by
  refine tag_hash_ne key J _ _ _ _ ?_
  have hu := up16_le m.size
  refine hash_turned_text _ _ _ p (by rw [tagT_size, tagT_size, turnT_size]) (by rw [tagT_size]; have := up16_mod (turnT m p d).size; have := up16_mod b.size; omega) (by rw [tagT_size, turnT_size]; omega) hh ?_ ?_
  · unfold tagT
    simp only [sf_append, ByteArray.size_append, padT_size, numT_size, turnT_size, padT_byte]
    rw [if_pos (by omega), if_pos (by omega), if_pos (by omega), if_pos (by omega), if_pos (by omega), if_pos (by omega)]
    exact turnT_at m p d hp hd
  · intro j hj
    unfold tagT
    simp only [sf_append, ByteArray.size_append, padT_size, numT_size, turnT_size, padT_byte, turnT_other m p d j hj]
theorem tag_body (key : ByteArray) (J : Nat → UInt8) (m b : ByteArray) (p : Nat) (d : UInt8) (hp : p < b.size) (hd : d ≠ 0) (hh : ¬ ∀ j, j < 16 → hK key j = 0) :
    str 16 (tagF key J m (turnT b p d)) ≠ str 16 (tagF key J m b) := by
  refine tag_hash_ne key J _ _ _ _ ?_
  have hu := up16_le b.size
  refine hash_turned_text _ _ _ (up16 m.size + p) (by rw [tagT_size, tagT_size, turnT_size]) (by rw [tagT_size]; have := up16_mod m.size; have := up16_mod (turnT b p d).size; omega) (by rw [tagT_size, turnT_size]; omega) hh ?_ ?_
  · unfold tagT
    simp only [sf_append, ByteArray.size_append, padT_size, numT_size, turnT_size, padT_byte]
    rw [if_pos (by omega), if_pos (by omega), if_neg (by omega), if_pos (by omega), if_pos (by omega), if_neg (by omega), Nat.add_sub_cancel_left]
    exact turnT_at b p d hp hd
  · intro j hj
    unfold tagT
    simp only [sf_append, ByteArray.size_append, padT_size, numT_size, turnT_size, padT_byte]
    by_cases h1 : j < up16 m.size
    · rw [if_pos (by omega), if_pos (by omega), if_pos (by omega), if_pos (by omega), if_pos (by omega), if_pos (by omega)]
    · rw [turnT_other b p d (j - up16 m.size) (by omega)]
/-- another nonce of the same length is another J -/
theorem first_turned (key n : ByteArray) (p : Nat) (d : UInt8) (hp : p < n.size) (hd : d ≠ 0) (hh : ¬ ∀ j, j < 16 → hK key j = 0) :
    ¬ ∀ j, j < 16 → firstF key (turnT n p d) j = firstF key n j := by
  have hu := up16_le n.size
  unfold firstF
  rw [turnT_size]
  by_cases h12 : n.size = 12
  · rw [if_pos h12, if_pos h12]
    intro e
    have e1 := e p (by omega)
    rw [sf_append, sf_append, turnT_size, if_pos hp, if_pos hp] at e1
    exact turnT_at n p d hp hd e1
  · rw [if_neg h12, if_neg h12]
    refine hash_turned_text _ _ _ p (by rw [nonceT_size, nonceT_size, turnT_size]) (by rw [nonceT_size]; have := up16_mod (turnT n p d).size; omega) (by rw [nonceT_size, turnT_size]; omega) hh ?_ ?_
    · unfold nonceT
      simp only [sf_append, ByteArray.size_append, padT_size, numT_size, turnT_size, padT_byte]
      rw [if_pos (by omega), if_pos (by omega), if_pos (by omega), if_pos (by omega)]
      exact turnT_at n p d hp hd
    · intro j hj
      unfold nonceT
      simp only [sf_append, ByteArray.size_append, padT_size, numT_size, turnT_size, padT_byte, turnT_other n p d j hj]
theorem tag_nonce (key n m b : ByteArray) (p : Nat) (d : UInt8) (hp : p < n.size) (hd : d ≠ 0) (hh : ¬ ∀ j, j < 16 → hK key j = 0) :
    str 16 (tagF key (firstF key (turnT n p d)) m b) ≠ str 16 (tagF key (firstF key n) m b) := by
  intro e
  apply first_turned key n p d hp hd hh
  have e2 : str 16 (aesF (sf key) (firstF key (turnT n p d)) key.size) = str 16 (aesF (sf key) (firstF key n) key.size) := by
    apply str_congr
    intro j hj
    have e3 := congrArg (fun s => sf s j) e
    rw [sf_str _ _ _ hj, sf_str _ _ _ hj] at e3
    unfold tagF at e3
    generalize hashN (hK key) (sf (tagT m b)) ((tagT m b).size / 16) j = z at *
    generalize aesF (sf key) (firstF key (turnT n p d)) key.size j = x at *
    generalize aesF (sf key) (firstF key n) key.size j = y at *
    have : z ^^^ (z ^^^ x) = z ^^^ (z ^^^ y) := by rw [e3]
    rwa [← UInt8.xor_assoc, UInt8.xor_self, UInt8.zero_xor, ← UInt8.xor_assoc, UInt8.xor_self, UInt8.zero_xor] at this
  have e4 := (aes_str _ _ _ _).1 e2
  intro j hj
  have e5 := congrArg (fun s => sf s j) e4
  rwa [sf_str _ _ _ hj, sf_str _ _ _ hj] at e5
end Go.Proofs.Ytgalgjmhdbncbaa
