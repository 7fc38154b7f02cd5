import Derived.Test.YtgalgjmhdbncbaaGreatZu07
import Derived.Test.YtgalgjmhdbncbaaGreatZu10
import Derived.Test.YtgalgjmhdbncbaaGreatZu03
import Derived.Test.YtgalgjmhdbncbaaGreatZu04
import Derived.Shelf.Strings.Repeat
import Derived.Test.YtgalgjmhdbncbaaGreatProg
namespace Go.Proofs.YtgalgjmhdbncbaaGreat

def hK (key : ByteArray) : Nat → UInt8 := aesF (sf key) (fun _ => 0) key.size
def nonceT (nonce : ByteArray) : ByteArray := padT nonce ++ numT 0 8 ++ numT (8 * nonce.size) 8
def firstF (key nonce : ByteArray) : Nat → UInt8 :=
  if nonce.size = 12 then sf (nonce ++ numT 1 4) else hashN (hK key) (sf (nonceT nonce)) ((nonceT nonce).size / 16)
def ctrF (J : Nat → UInt8) (i j : Nat) : UInt8 := if j < 12 then J j else numF ((valF J 12 4 + i) % 4294967296) 4 (j - 12)
def streamF (key : ByteArray) (J : Nat → UInt8) (m : Nat) : UInt8 := aesF (sf key) (ctrF J (m / 16 + 1)) key.size (m % 16)
def maskT (key : ByteArray) (J : Nat → UInt8) (s : ByteArray) : ByteArray := str s.size fun j => sf s j ^^^ streamF key J j
def tagT (more body : ByteArray) : ByteArray := padT more ++ padT body ++ numT (8 * more.size) 8 ++ numT (8 * body.size) 8
def tagF (key : ByteArray) (J : Nat → UInt8) (more body : ByteArray) (j : Nat) : UInt8 := hashN (hK key) (sf (tagT more body)) ((tagT more body).size / 16) j ^^^ aesF (sf key) J key.size j
def sealT (key nonce more plain : ByteArray) : ByteArray := maskT key (firstF key nonce) plain ++ str 16 (tagF key (firstF key nonce) more (maskT key (firstF key nonce) plain))

theorem nonceT_size (s : ByteArray) : (nonceT s).size = up16 s.size + 16 := by
  unfold nonceT
  rw [ByteArray.size_append, ByteArray.size_append, padT_size, numT_size, numT_size]
theorem tagT_size (m b : ByteArray) : (tagT m b).size = up16 m.size + up16 b.size + 16 := by
  unfold tagT
  rw [ByteArray.size_append, ByteArray.size_append, ByteArray.size_append, padT_size, padT_size, numT_size, numT_size]
theorem maskT_size (key : ByteArray) (J : Nat → UInt8) (s : ByteArray) : (maskT key J s).size = s.size := str_size _ _
theorem sealT_size (key nonce more plain : ByteArray) : (sealT key nonce more plain).size = plain.size + 16 := by
  unfold sealT
  rw [ByteArray.size_append, maskT_size, str_size]
theorem maskT_mask (key : ByteArray) (J : Nat → UInt8) (s : ByteArray) : maskT key J (maskT key J s) = s := by
  apply bytes_ext
  · rw [maskT_size, maskT_size]
  · intro j hj
    rw [maskT_size, maskT_size] at hj
    have h1 : sf (maskT key J s) j = sf s j ^^^ streamF key J j := sf_str _ _ _ hj
    have h2 : sf (maskT key J (maskT key J s)) j = sf (maskT key J s) j ^^^ streamF key J j := sf_str _ _ _ (by rw [maskT_size]; exact hj)
    rw [h2, h1, UInt8.xor_assoc, UInt8.xor_self, UInt8.xor_zero]
theorem maskT_xor (key : ByteArray) (J : Nat → UInt8) (s : ByteArray) (j : Nat) (h : j < s.size) : sf (maskT key J s) j ^^^ sf s j = streamF key J j := by
  have h1 : sf (maskT key J s) j = sf s j ^^^ streamF key J j := sf_str _ _ _ h
  rw [h1, UInt8.xor_comm, ← UInt8.xor_assoc, UInt8.xor_self, UInt8.zero_xor]

theorem sealT_body (key nonce more plain : ByteArray) : (sealT key nonce more plain).extract 0 plain.size = maskT key (firstF key nonce) plain := by
  apply bytes_ext
  · rw [cut_size _ _ _ (by rw [sealT_size]; omega), maskT_size]; omega
  · intro j hj
    rw [cut_size _ _ _ (by rw [sealT_size]; omega)] at hj
    rw [sf_cut _ _ _ _ (by rw [sealT_size]; omega) (by omega)]
    unfold sealT
    rw [sf_append, maskT_size, if_pos (by omega), Nat.zero_add]
theorem sealT_tag (key nonce more plain : ByteArray) : (sealT key nonce more plain).extract plain.size (plain.size + 16) = str 16 (tagF key (firstF key nonce) more (maskT key (firstF key nonce) plain)) := by
  apply bytes_ext
  · rw [cut_size _ _ _ (by rw [sealT_size]; omega), str_size]; omega
  · intro j hj
    rw [cut_size _ _ _ (by rw [sealT_size]; omega)] at hj
    rw [sf_cut _ _ _ _ (by rw [sealT_size]; omega) (by omega)]
    unfold sealT
    rw [sf_append, maskT_size, if_neg (by omega), Nat.add_sub_cancel_left]
theorem sealT_open (key nonce more sealed : ByteArray) (h : 16 ≤ sealed.size) :
    sealT key nonce more (maskT key (firstF key nonce) (sealed.extract 0 (sealed.size - 16))) = sealed ↔
      str 16 (tagF key (firstF key nonce) more (sealed.extract 0 (sealed.size - 16))) = sealed.extract (sealed.size - 16) sealed.size := by
  have hsz : (sealed.extract 0 (sealed.size - 16)).size = sealed.size - 16 := by rw [cut_size _ _ _ (by omega)]; omega
  have hc : sealed = sealed.extract 0 (sealed.size - 16) ++ sealed.extract (sealed.size - 16) sealed.size := by
    apply bytes_ext
    · rw [ByteArray.size_append, hsz, cut_size _ _ _ (by omega)]; omega
    · intro j hj
      rw [sf_append, hsz]
      by_cases h1 : j < sealed.size - 16
      · rw [if_pos h1, sf_cut _ _ _ _ (by omega) (by omega), Nat.zero_add]
      · rw [if_neg h1, sf_cut _ _ _ _ (by omega) (by omega)]
        congr 1
        omega
  unfold sealT
  rw [maskT_mask]
  constructor
  · intro e
    have e2 := congrArg (fun s : ByteArray => s.extract (sealed.size - 16) sealed.size) e
    rw [← e2]
    apply bytes_ext
    · rw [str_size, cut_size _ _ _ (by rw [ByteArray.size_append, hsz, str_size]; omega)]; omega
    · intro j hj
      rw [str_size] at hj
      rw [sf_cut _ _ _ _ (by rw [ByteArray.size_append, hsz, str_size]; omega) (by omega), sf_append, hsz, if_neg (by omega), Nat.add_sub_cancel_left]
  · intro e
    rw [e]
    exact hc.symm

def turnT (s : ByteArray) (p : Nat) (d : UInt8) : ByteArray := str s.size fun j => if j = p then sf s j ^^^ d else sf s j
theorem turnT_size (s : ByteArray) (p : Nat) (d : UInt8) : (turnT s p d).size = s.size := str_size _ _
theorem turnT_at (s : ByteArray) (p : Nat) (d : UInt8) (h : p < s.size) (hd : d ≠ 0) : sf (turnT s p d) p ≠ sf s p := by
  unfold turnT
  rw [sf_str _ _ _ h, if_pos rfl]
  intro e
  apply hd
  have : (sf s p ^^^ d) ^^^ sf s p = sf s p ^^^ sf s p := by rw [e]
  rwa [UInt8.xor_comm (sf s p) d, UInt8.xor_assoc, UInt8.xor_self, UInt8.xor_zero] at this
theorem turnT_other (s : ByteArray) (p : Nat) (d : UInt8) (j : Nat) (h : j ≠ p) : sf (turnT s p d) j = sf s j := by
  by_cases hj : j < s.size
  · unfold turnT
    rw [sf_str _ _ _ hj, if_neg h]
  · rw [sf_past _ _ (by rw [turnT_size]; omega), sf_past _ _ (by omega)]
theorem padT_byte (s : ByteArray) (j : Nat) : sf (padT s) j = sf s j := by
  by_cases h : j < up16 s.size
  · exact sf_str _ _ _ h
  · rw [sf_past _ _ (by rw [padT_size]; omega), sf_past _ _ (by have := up16_le s.size; omega)]
theorem hash_turned (h S T : Nat → UInt8) (q k : Nat) (hq : q < 16 * k) (hh : ¬ ∀ j, j < 16 → h j = 0) (hne : S q ≠ T q) (hs : ∀ j, j < 16 * k → j ≠ q → S j = T j) :
    ¬ ∀ j, j < 16 → hashN h S k j = hashN h T k j := by
  refine hash_parts h S T (q / 16) k (by omega) hh ?_ ?_
  · intro e
    have := e (q % 16) (by omega)
    rw [show 16 * (q / 16) + q % 16 = q by omega] at this
    exact hne this
  · intro t j ht hti hj
    exact hs _ (by omega) (by omega)
theorem hash_turned_text (h : Nat → UInt8) (S T : ByteArray) (q : Nat) (hsz : S.size = T.size) (hm : S.size % 16 = 0) (hq : q < S.size) (hh : ¬ ∀ j, j < 16 → h j = 0) (hne : sf S q ≠ sf T q) (hs : ∀ j, j ≠ q → sf S j = sf T j) :
    ¬ ∀ j, j < 16 → hashN h (sf S) (S.size / 16) j = hashN h (sf T) (T.size / 16) j := by
  rw [← hsz]
  exact hash_turned h _ _ q _ (by omega) hh hne (fun j _ hj => hs j hj)
theorem tag_hash_ne (key : ByteArray) (J : Nat → UInt8) (m b m' b' : ByteArray) (h : ¬ ∀ j, j < 16 → hashN (hK key) (sf (tagT m b)) ((tagT m b).size / 16) j = hashN (hK key) (sf (tagT m' b')) ((tagT m' b').size / 16) j) :
    str 16 (tagF key J m b) ≠ str 16 (tagF key J m' b') := by
  intro e
  apply h
  intro j hj
  have e2 := congrArg (fun s => sf s j) e
  rw [sf_str _ _ _ hj, sf_str _ _ _ hj] at e2
  unfold tagF at e2
  generalize hashN (hK key) (sf (tagT m b)) ((tagT m b).size / 16) j = x at *
  generalize hashN (hK key) (sf (tagT m' b')) ((tagT m' b').size / 16) j = y at *
  generalize aesF (sf key) J key.size j = z at *
  have : (x ^^^ z) ^^^ z = (y ^^^ z) ^^^ z := by rw [e2]
  rwa [UInt8.xor_assoc, UInt8.xor_self, UInt8.xor_zero, UInt8.xor_assoc, UInt8.xor_self, UInt8.xor_zero] at this
theorem tag_more (key : ByteArray) (J : Nat → UInt8) (m b : ByteArray) (p : Nat) (d : UInt8) (hp : p < m.size) (hd : d ≠ 0) (hh : ¬ ∀ j, j < 16 → hK key j = 0) :
    str 16 (tagF key J (turnT m p d) b) ≠ str 16 (tagF key J m b) := by
  refine tag_hash_ne key J _ _ _ _ ?_
  have hu := up16_le m.size
  refine hash_turned_text _ _ _ p (by rw [tagT_size, tagT_size, turnT_size]) (by rw [tagT_size]; have := up16_mod (turnT m p d).size; have := up16_mod b.size; omega) (by rw [tagT_size, turnT_size]; omega) hh ?_ ?_
  · unfold tagT
    simp only [sf_append, ByteArray.size_append, padT_size, numT_size, turnT_size, padT_byte]
    rw [if_pos (by omega), if_pos (by omega), if_pos (by omega), if_pos (by omega), if_pos (by omega), if_pos (by omega)]
    exact turnT_at m p d hp hd
  · intro j hj
    unfold tagT
    simp only [sf_append, ByteArray.size_append, padT_size, numT_size, turnT_size, padT_byte, turnT_other m p d j hj]
theorem tag_body (key : ByteArray) (J : Nat → UInt8) (m b : ByteArray) (p : Nat) (d : UInt8) (hp : p < b.size) (hd : d ≠ 0) (hh : ¬ ∀ j, j < 16 → hK key j = 0) :
    str 16 (tagF key J m (turnT b p d)) ≠ str 16 (tagF key J m b) := by
  refine tag_hash_ne key J _ _ _ _ ?_
  have hu := up16_le b.size
  refine hash_turned_text _ _ _ (up16 m.size + p) (by rw [tagT_size, tagT_size, turnT_size]) (by rw [tagT_size]; have := up16_mod m.size; have := up16_mod (turnT b p d).size; omega) (by rw [tagT_size, turnT_size]; omega) hh ?_ ?_
  · unfold tagT
    simp only [sf_append, ByteArray.size_append, padT_size, numT_size, turnT_size, padT_byte]
    rw [if_pos (by omega), if_pos (by omega), if_neg (by omega), if_pos (by omega), if_pos (by omega), if_neg (by omega), Nat.add_sub_cancel_left]
    exact turnT_at b p d hp hd
  · intro j hj
    unfold tagT
    simp only [sf_append, ByteArray.size_append, padT_size, numT_size, turnT_size, padT_byte]
    by_cases h1 : j < up16 m.size
    · rw [if_pos (by omega), if_pos (by omega), if_pos (by omega), if_pos (by omega), if_pos (by omega), if_pos (by omega)]
    · rw [turnT_other b p d (j - up16 m.size) (by omega)]
theorem first_turned (key n : ByteArray) (p : Nat) (d : UInt8) (hp : p < n.size) (hd : d ≠ 0) (hh : ¬ ∀ j, j < 16 → hK key j = 0) :
    ¬ ∀ j, j < 16 → firstF key (turnT n p d) j = firstF key n j := by
  have hu := up16_le n.size
  unfold firstF
  rw [turnT_size]
  by_cases h12 : n.size = 12
  · rw [if_pos h12, if_pos h12]
    intro e
    have e1 := e p (by omega)
    rw [sf_append, sf_append, turnT_size, if_pos hp, if_pos hp] at e1
    exact turnT_at n p d hp hd e1
  · rw [if_neg h12, if_neg h12]
    refine hash_turned_text _ _ _ p (by rw [nonceT_size, nonceT_size, turnT_size]) (by rw [nonceT_size]; have := up16_mod (turnT n p d).size; omega) (by rw [nonceT_size, turnT_size]; omega) hh ?_ ?_
    · unfold nonceT
      simp only [sf_append, ByteArray.size_append, padT_size, numT_size, turnT_size, padT_byte]
      rw [if_pos (by omega), if_pos (by omega), if_pos (by omega), if_pos (by omega)]
      exact turnT_at n p d hp hd
    · intro j hj
      unfold nonceT
      simp only [sf_append, ByteArray.size_append, padT_size, numT_size, turnT_size, padT_byte, turnT_other n p d j hj]
theorem tag_nonce (key n m b : ByteArray) (p : Nat) (d : UInt8) (hp : p < n.size) (hd : d ≠ 0) (hh : ¬ ∀ j, j < 16 → hK key j = 0) :
    str 16 (tagF key (firstF key (turnT n p d)) m b) ≠ str 16 (tagF key (firstF key n) m b) := by
  intro e
  apply first_turned key n p d hp hd hh
  have e2 : str 16 (aesF (sf key) (firstF key (turnT n p d)) key.size) = str 16 (aesF (sf key) (firstF key n) key.size) := by
    apply str_congr
    intro j hj
    have e3 := congrArg (fun s => sf s j) e
    rw [sf_str _ _ _ hj, sf_str _ _ _ hj] at e3
    unfold tagF at e3
    generalize hashN (hK key) (sf (tagT m b)) ((tagT m b).size / 16) j = z at *
    generalize aesF (sf key) (firstF key (turnT n p d)) key.size j = x at *
    generalize aesF (sf key) (firstF key n) key.size j = y at *
    have : z ^^^ (z ^^^ x) = z ^^^ (z ^^^ y) := by rw [e3]
    rwa [← UInt8.xor_assoc, UInt8.xor_self, UInt8.zero_xor, ← UInt8.xor_assoc, UInt8.xor_self, UInt8.zero_xor] at this
  have e4 := (aes_str _ _ _ _).1 e2
  intro j hj
  have e5 := congrArg (fun s => sf s j) e4
  rwa [sf_str _ _ _ hj, sf_str _ _ _ hj] at e5
end Go.Proofs.YtgalgjmhdbncbaaGreat
namespace Go.Proofs.YtgalgjmhdbncbaaGreat
open Go.RowKit
attribute [local go_sem ↓] Go.wp_at_zero Go.wp_at_succ

theorem bd40 (ps : Array (Nat × Value)) : Instr.build 145 ps = Bd 145 ps := rfl
theorem bd117 (ps : Array (Nat × Value)) : Instr.build 192 ps = Bd 192 ps := rfl
theorem run_bd40 (w : World) : Sem.run Tryz.prog (Bd 145 #[]) w = .ok (.agg (arr 16 z8)) w := by kernel_rfl
def modeV (gc : Nat) (h : Nat → UInt8) (j : Nat) : Value := if j = 0 then .pointer (some ⟨gc, 0, none⟩) else by8 h (j - 1)
theorem run_bd117 (gc : Nat) (h : Nat → UInt8) (w : World) : Sem.run Tryz.prog (Bd 192 #[(0, .pointer (some ⟨gc, 0, none⟩)), (1, .agg (arr 16 (by8 h)))]) w = .ok (.agg (arr 17 (modeV gc h))) w := by kernel_rfl
structure Mod (w : World) (g gc : Nat) (key : ByteArray) : Prop where
  r : Row w g 17 192 (modeV gc (hK key))
  c : Cip w gc (key.size / 4 + 6) (ksF (sf key) key.size)
theorem Mod.keep {w w1 : World} {g gc : Nat} {key : ByteArray} (h : Mod w g gc key) (hb : Below w.heap.size w w1) : Mod w1 g gc key := ⟨h.r.keep hb h.r.lt, h.c.keep hb⟩
theorem Mod.alloc {w : World} {g gc : Nat} {key : ByteArray} (h : Mod w g gc key) (o : Obj) : Mod (w.alloc o) g gc key := ⟨h.r.alloc o, Row.alloc h.c o⟩
theorem Mod.drew {w : World} {g gc : Nat} {key : ByteArray} (h : Mod w g gc key) : Mod w.drew g gc key := ⟨h.r, h.c⟩
theorem Mod.below {w w1 : World} {g gc B : Nat} {key : ByteArray} (h : Mod w g gc key) (hb : Below B w w1) (h1 : g < B) (h2 : gc < B) : Mod w1 g gc key := ⟨h.r.keep hb h1, Row.keep h.c hb h2⟩
theorem Mod.lt {w : World} {g gc : Nat} {key : ByteArray} (h : Mod w g gc key) : g < w.heap.size ∧ gc < w.heap.size := ⟨h.r.lt, Row.lt h.c⟩
theorem Mod.ptr {w : World} {g gc : Nat} {key : ByteArray} (h : Mod w g gc key) : w.cell? ⟨g, 0, none⟩ = some (.pointer (some ⟨gc, 0, none⟩)) := Row.cell h.r 0 (by omega)
attribute [local go_sem ↓] ldw40 stw40 al40 bd40 bd117
attribute [local go_sem] run_ldT40 ldN_row run_stT40 stN_row stN_z run_al40 run_bd40 run_bd117
attribute [local go_sem] blk_new blk_at blk_old blk_drew blk_setCell blk_setRow alloc_setRow

def KeyLen (n : Nat) : Prop := n = 16 ∨ n = 24 ∨ n = 32
theorem cip_z (gc : Nat) (key : ByteArray) (hk : KeyLen key.size) (w : World) (hc : Cip w gc (key.size / 4 + 6) (ksF (sf key) key.size)) :
    Calls Tryz.prog 114 #[.pointer (some ⟨gc, 0, none⟩), .agg (arr 16 z8)] w fun e w' => e = .returned (.agg (arr 16 (by8 (hK key)))) ∧ Below w.heap.size w w' := by
  unfold KeyLen at hk
  exact cipher_any gc _ _ (fun _ => 0) (by omega) (by omega) w hc
theorem cip_f (gc : Nat) (key : ByteArray) (hk : KeyLen key.size) (f : Nat → UInt8) (w : World) (hc : Cip w gc (key.size / 4 + 6) (ksF (sf key) key.size)) :
    Calls Tryz.prog 114 #[.pointer (some ⟨gc, 0, none⟩), .agg (arr 16 (by8 f))] w fun e w' => e = .returned (.agg (arr 16 (by8 (aesF (sf key) f key.size)))) ∧ Below w.heap.size w w' := by
  unfold KeyLen at hk
  exact cipher_any gc _ _ f (by omega) (by omega) w hc

set_option maxRecDepth 100000 in
set_option maxHeartbeats 1000000 in
theorem gnew_no (key : ByteArray) (hs : key.size ≤ maxLen) (hk : ¬ KeyLen key.size) (w : World) :
    Calls Tryz.prog 76 #[.string key] w fun e w' => e = .returned (.tuple #[.pointer none, .bool false]) ∧ w' = w := by
  have H : Hid _ := hk
  clear hk
  go_enter Tryz.func76, Tryz.ntmps76
  go_wp2_with fail
  refine (new_no key hs (fun e => H.out (.inl e)) (fun e => H.out (.inr (.inl e))) (fun e => H.out (.inr (.inr e))) _).mono ?_
  rintro e w1 ⟨rfl, hw⟩
  subst hw
  go_wp2
  go_ret2
  exact ⟨rfl, rfl⟩
set_option maxRecDepth 100000 in
set_option maxHeartbeats 1000000 in
theorem gnew_yes (key : ByteArray) (hs : key.size ≤ maxLen) (hk : KeyLen key.size) (w : World) :
    Calls Tryz.prog 76 #[.string key] w fun e w' => ∃ g gc, e = .returned (.tuple #[.pointer (some ⟨g, 0, none⟩), .bool true]) ∧ w.heap.size ≤ g ∧ w.heap.size ≤ gc ∧ Mod w' g gc key ∧ Below w.heap.size w w' := by
  have H : Hid _ := hk
  clear hk
  go_enter Tryz.func76, Tryz.ntmps76
  go_wp2_with fail
  refine (new_yes key hs H.out _).mono ?_
  rintro e w1 ⟨gc, rfl, hgc, hc, hb1⟩
  go_wp2_with fail
  refine (cip_z gc key H.out _ hc).mono ?_
  rintro e w2 ⟨rfl, hb2⟩
  have hc2 := hc.keep hb2
  go_wp2
  go_ret2
  have z1 := hb1.size
  have z2 := hb2.size
  exact ⟨w2.heap.size, gc, rfl, by omega, hgc, ⟨Row.new _ _ _ _ _ rfl, Row.alloc hc2 _⟩, (hb1.trans (hb2.mono z1)).alloc (by omega) _⟩
end Go.Proofs.YtgalgjmhdbncbaaGreat
namespace Go.Proofs
open Go.Shelf
def Tryz.lays105_ren : Go.Shelf.Ren := ⟨fun | 105 => 159 | 212 => 162 | 99 => 163 | 165 => 164 | 166 => 165 | 170 => 166 | 169 => 167 | 263 => 168 | 264 => 169 | 206 => 170 | 240 => 171 | 241 => 172 | 276 => 173 | 277 => 174 | n => n, fun | 9 => 9 | 3 => 3 | 4 => 4 | 20 => 20 | 0 => 0 | 46 => 184 | 109 => 232 | 5 => 5 | 72 => 237 | 76 => 241 | 51 => 243 | 146 => 244 | 53 => 138 | 148 => 246 | 70 => 235 | 37 => 105 | 75 => 240 | 127 => 248 | 164 => 249 | 80 => 140 | n => n, fun | n => n⟩
theorem Tryz.lays105 : Go.Proofs.Lays.n105 Tryz.prog Tryz.lays105_ren := {
  mixed := by kernel_rfl
  f99 := Tryz.func163.trans (congrArg some (by kernel_rfl))
  f105 := Tryz.func159.trans (congrArg some (by kernel_rfl))
  f165 := Tryz.func164.trans (congrArg some (by kernel_rfl))
  f166 := Tryz.func165.trans (congrArg some (by kernel_rfl))
  f169 := Tryz.func167.trans (congrArg some (by kernel_rfl))
  f170 := Tryz.func166.trans (congrArg some (by kernel_rfl))
  f206 := Tryz.func170.trans (congrArg some (by kernel_rfl))
  f212 := Tryz.func162.trans (congrArg some (by kernel_rfl))
  f240 := Tryz.func171.trans (congrArg some (by kernel_rfl))
  f241 := Tryz.func172.trans (congrArg some (by kernel_rfl))
  f263 := Tryz.func168.trans (congrArg some (by kernel_rfl))
  f264 := Tryz.func169.trans (congrArg some (by kernel_rfl))
  f276 := Tryz.func173.trans (congrArg some (by kernel_rfl))
  f277 := Tryz.func174.trans (congrArg some (by kernel_rfl))
  t0 := Tryz.underlying0
  a0 := Tryz.isAgg0
  z0 := Tryz.sizeOf0
  v0 := Tryz.zeroValue0
  t3 := Tryz.underlying3
  a3 := Tryz.isAgg3
  z3 := Tryz.sizeOf3
  v3 := Tryz.zeroValue3
  t4 := Tryz.underlying4
  a4 := Tryz.isAgg4
  z4 := Tryz.sizeOf4
  v4 := Tryz.zeroValue4
  t5 := Tryz.underlying5
  a5 := Tryz.isAgg5
  z5 := Tryz.sizeOf5
  v5 := Tryz.zeroValue5
  t9 := Tryz.underlying9
  a9 := Tryz.isAgg9
  z9 := Tryz.sizeOf9
  v9 := Tryz.zeroValue9
  t20 := Tryz.underlying20
  a20 := Tryz.isAgg20
  z20 := Tryz.sizeOf20
  v20 := Tryz.zeroValue20
  t37 := Tryz.underlying105
  a37 := Tryz.isAgg105
  z37 := Tryz.sizeOf105
  v37 := Tryz.zeroValue105
  t46 := Tryz.underlying184
  a46 := Tryz.isAgg184
  z46 := Tryz.sizeOf184
  v46 := Tryz.zeroValue184
  t51 := Tryz.underlying243
  a51 := Tryz.isAgg243
  z51 := Tryz.sizeOf243
  v51 := Tryz.zeroValue243
  t53 := Tryz.underlying138
  a53 := Tryz.isAgg138
  z53 := Tryz.sizeOf138
  v53 := Tryz.zeroValue138
  t70 := Tryz.underlying235
  a70 := Tryz.isAgg235
  z70 := Tryz.sizeOf235
  v70 := Tryz.zeroValue235
  t72 := Tryz.underlying237
  a72 := Tryz.isAgg237
  z72 := Tryz.sizeOf237
  v72 := Tryz.zeroValue237
  t75 := Tryz.underlying240
  a75 := Tryz.isAgg240
  z75 := Tryz.sizeOf240
  v75 := Tryz.zeroValue240
  t76 := Tryz.underlying241
  a76 := Tryz.isAgg241
  z76 := Tryz.sizeOf241
  v76 := Tryz.zeroValue241
  t109 := Tryz.underlying232
  a109 := Tryz.isAgg232
  z109 := Tryz.sizeOf232
  v109 := Tryz.zeroValue232
  t127 := Tryz.underlying248
  a127 := Tryz.isAgg248
  z127 := Tryz.sizeOf248
  v127 := Tryz.zeroValue248
  t146 := Tryz.underlying244
  a146 := Tryz.isAgg244
  z146 := Tryz.sizeOf244
  v146 := Tryz.zeroValue244
  t148 := Tryz.underlying246
  a148 := Tryz.isAgg246
  z148 := Tryz.sizeOf246
  v148 := Tryz.zeroValue246
  t164 := Tryz.underlying249
  a164 := Tryz.isAgg249
  z164 := Tryz.sizeOf249
  v164 := Tryz.zeroValue249 }
theorem Tryz.Builder_Extra_105 : Builder.Extra Tryz.prog Tryz.lays105_ren := {
  sizeBuilder := by kernel_rfl
  liesBuilder := by kernel_rfl
  t5 := Tryz.underlying5
  a5 := Tryz.isAgg5
  z5 := Tryz.sizeOf5
  v5 := Tryz.zeroValue5
  infoByte := by kernel_rfl
  cellsByte := by kernel_rfl
  sizeByte := by kernel_rfl
  neB5 := by decide }
open Go.RowKit Go.Lib in
theorem Tryz.strings_Repeat (s : ByteArray) (c : Nat) (w : World) (hc : c ≤ 9223372036854775807) (hlen : s.size * c ≤ 140737488355328) :
    Calls Tryz.prog 159 #[.string s, .int .i64 c] w fun e w' => e = .returned (.string ⟨(Lib.repeatL s.data.toList c).toArray⟩) ∧ Below w.heap.size w w' := Any.strings_Repeat Tryz.lays105 Tryz.Builder_Extra_105 s c w hc hlen
end Go.Proofs
namespace Go.Proofs.YtgalgjmhdbncbaaGreat
open Go.RowKit

theorem rep_zs : ∀ c : Fin 16, (⟨(Lib.repeatL [0] c.val).toArray⟩ : ByteArray) = zs c.val := by decide +kernel
theorem repeat_any (c : Nat) (hc : c < 16) (w : World) : Calls Tryz.prog 159 #[.string ⟨#[0]⟩, .int .i64 c] w fun e w' => e = .returned (.string (zs c)) ∧ Below w.heap.size w w' := by
  refine (Go.Proofs.Tryz.strings_Repeat ⟨#[0]⟩ c w (by omega) (by show 1 * c ≤ _; omega)).mono ?_
  rintro e w' ⟨rfl, hb⟩
  refine ⟨?_, hb⟩
  rw [← rep_zs ⟨c, hc⟩]
theorem pad_none (s : ByteArray) (h : s.size % 16 = 0) : padT s = s := by
  unfold padT
  rw [show up16 s.size = s.size by unfold up16; omega]
  exact str_sf s _ rfl
theorem pad_some (s : ByteArray) (h : s.size % 16 ≠ 0) : s ++ zs (16 - s.size % 16) = padT s := by
  have e := just_short s (up16 s.size) (up16_le _)
  rw [show up16 s.size - s.size = 16 - s.size % 16 by unfold up16; omega] at e
  exact e

set_option maxRecDepth 100000 in
set_option maxHeartbeats 400000 in
theorem padded_any (s : ByteArray) (hs : s.size ≤ 1000) (w : World) : Calls Tryz.prog 151 #[.string s] w fun e w' => e = .returned (.string (padT s)) ∧ Below w.heap.size w w' := by
  by_cases h : s.size % 16 = 0
  · have hd : ((s.size : Int) % 16 == 0) = true := by rw [beq_iff_eq]; omega
    have HP : Hid _ := pad_none s h
    clear h
    go_enter Tryz.func151, Tryz.ntmps151
    go_wp2
    go_ret
    exact ⟨by rw [HP.out]; rfl, Below.refl _ _⟩
  · have hd : ((s.size : Int) % 16 == 0) = false := by rw [beq_eq_false_iff_ne]; omega
    have HP : Hid _ := pad_some s h
    have hz := zs_size (16 - s.size % 16)
    have hR := fun W => repeat_any (16 - s.size % 16) (by omega) W
    rw [show ((16 - s.size % 16 : Nat) : Int) = 16 - (s.size : Int) % 16 by omega] at hR
    have HR : Hid _ := hR
    clear h hR
    go_enter Tryz.func151, Tryz.ntmps151
    go_wp2_with fail
    refine (HR.out _).mono ?_
    rintro e w1 ⟨rfl, hb⟩
    go_wp2
    go_ret
    exact ⟨by rw [← HP.out]; rfl, hb⟩
end Go.Proofs.YtgalgjmhdbncbaaGreat
