import Derived.Test.YtgalgjmhdbncbaaN11
import Derived.Test.YtgalgjmhdbncbaaB3
namespace Go.Proofs.Ytgalgjmhdbncbaa
open Go.RowKit

/-! ### keep's upTo -/
def upT (s : ByteArray) (n : Nat) : ByteArray := if n < s.size then s.extract 0 n else s
theorem upT_le (s : ByteArray) (n : Nat) : (upT s n).size ≤ n := by
  unfold upT
  split
  · rw [cut_size _ _ _ (by omega)]; omega
  · omega
theorem upT_pos (s : ByteArray) (n : Nat) (hn : 1 ≤ n) (hs : 1 ≤ s.size) : 1 ≤ (upT s n).size := by
  unfold upT
  split
  · rw [cut_size _ _ _ (by omega)]; omega
  · omega
set_option maxHeartbeats 400000 in
theorem upTo_any (s : ByteArray) (n : Nat) (hn : n ≤ 1000) (w : World) : Calls Try.prog 27 #[.string s, .int .i64 n] w fun e w' => e = .returned (.string (upT s n)) ∧ w' = w := by
  by_cases h : n < s.size
  · have HU : Hid (upT s n = s.extract 0 n) := if_pos h
    go_enter Try.func27, Try.ntmps27
    go_wp2
    go_ret
    exact ⟨by rw [HU.out]; rfl, rfl⟩
  · have HU : Hid (upT s n = s) := if_neg h
    go_enter Try.func27, Try.ntmps27
    go_wp2
    go_ret
    exact ⟨by rw [HU.out]; rfl, rfl⟩

theorem upTo_more (s x : ByteArray) (n : Nat) (hn : n ≤ 1000) (h1 : 1 ≤ n) (hx : x.size = 1) (w : World) :
    Calls Try.prog 27 #[.string (s ++ x), .int .i64 n] w fun e w' => (∃ N : ByteArray, 1 ≤ N.size ∧ N.size ≤ n ∧ e = .returned (.string N)) ∧ w' = w := by
  refine (upTo_any (s ++ x) n hn w).mono ?_
  rintro e w' ⟨rfl, hw⟩
  exact ⟨⟨_, upT_pos _ _ h1 (by rw [ByteArray.size_append]; omega), upT_le _ _, rfl⟩, hw⟩
/-! ### what is sealed is opened again -/
theorem sealT_right (key n m p : ByteArray) : str 16 (tagF key (firstF key n) m ((sealT key n m p).extract 0 ((sealT key n m p).size - 16))) = (sealT key n m p).extract ((sealT key n m p).size - 16) (sealT key n m p).size := by
  rw [sealT_size, Nat.add_sub_cancel, sealT_body, sealT_tag]
theorem open_sealed (key n m p : ByteArray) (hs : key.size ≤ maxLen) (hk : KeyLen key.size) (hn : NonceLen n.size) (hm : m.size ≤ 200) (hp : p.size ≤ 200) (w : World) :
    Calls Try.prog 25 #[.string key, .string n, .string m, .string (sealT key n m p)] w fun e w' => e = .returned (.tuple #[.string p, .int .i64 0]) ∧ Below w.heap.size w w' := by
  refine (open_yes key n m _ hs hk hn hm (by rw [sealT_size]; omega) (by rw [sealT_size]; omega) (sealT_right key n m p) w).mono ?_
  rintro e w' ⟨rfl, hb⟩
  refine ⟨?_, hb⟩
  rw [sealT_size, Nat.add_sub_cancel, sealT_body, maskT_mask]
theorem key_max {n : Nat} (h : KeyLen n) : n ≤ maxLen := by unfold KeyLen at h; unfold maxLen; omega
theorem xor_sealed (key n m p : ByteArray) (hp : p.size ≤ 200) (w : World) :
    Calls Try.prog 20 #[.string ((sealT key n m p).extract 0 p.size), .string p] w fun e w' => e = .returned (.string (str p.size (streamF key (firstF key n)))) ∧ Below w.heap.size w w' := by
  rw [sealT_body]
  have h := kxor_any p.size (sf (maskT key (firstF key n) p)) (sf p) (by omega) w
  rw [str_sf _ _ (maskT_size _ _ _), str_sf p _ rfl] at h
  refine h.mono ?_
  rintro e w' ⟨rfl, hb⟩
  have e := str_congr fun j hj => maskT_xor key (firstF key n) p j hj
  exact ⟨by rw [e], hb⟩
theorem str_cut (n l : Nat) (f : Nat → UInt8) (h : l ≤ n) : (str n f).extract 0 l = str l f := by
  apply bytes_ext
  · rw [cut_size _ _ _ (by rw [str_size]; exact h), str_size]; omega
  · intro j hj
    rw [cut_size _ _ _ (by rw [str_size]; exact h)] at hj
    rw [sf_cut _ _ _ _ (by rw [str_size]; exact h) (by omega), sf_str _ _ _ (by omega), sf_str _ _ _ (by omega), Nat.zero_add]

set_option maxRecDepth 100000 in
set_option maxHeartbeats 4000000 in
theorem inverse_any (key nonce more plain other : ByteArray) (alg : Int) (h1 : -9223372036854775808 ≤ alg) (h2 : alg ≤ 9223372036854775807) (hk : key.size ≤ maxLen) (hn : nonce.size ≤ 140737488351232) (w : World) :
    Calls Try.prog 8 #[.string key, .int .i64 alg, .string nonce, .string more, .string plain, .string other] w fun e w' => e = .returned (.bool true) ∧ Below w.heap.size w w' := by
  have HK : Hid _ := hk
  clear hk
  go_enter Try.func8, Try.ntmps8
  go_wp2_with fail
  refine (keyOf_any key alg h1 h2 HK.out _).mono ?_
  rintro e w1 ⟨⟨m0, hm0, rfl⟩, b1⟩
  have hK : KeyLen (str m0 (sf key)).size := by rw [str_size]; exact hm0
  generalize str m0 (sf key) = K at *
  have HK2 : Hid _ := hK
  clear hK hm0 HK
  go_wp2_with fail
  refine (upTo_more nonce _ 40 (by omega) (by omega) rfl _).mono ?_
  rintro e w2 ⟨⟨N, hN1, hN2, rfl⟩, hw⟩
  subst hw
  have HN : Hid (NonceLen N.size) := ⟨hN1, hN2⟩
  clear hN1 hN2
  go_wp2_with fail
  refine (upTo_any more 200 (by omega) _).mono ?_
  rintro e w2 ⟨rfl, hw⟩
  subst hw
  have hM : (upT more 200).size ≤ 200 := upT_le _ _
  generalize upT more 200 = M at *
  go_wp2_with fail
  refine (upTo_any plain 200 (by omega) _).mono ?_
  rintro e w2 ⟨rfl, hw⟩
  subst hw
  have hA : (upT plain 200).size ≤ 200 := upT_le _ _
  generalize upT plain 200 = A at *
  go_wp2_with fail
  refine (upTo_any other 200 (by omega) _).mono ?_
  rintro e w2 ⟨rfl, hw⟩
  subst hw
  have hB : (upT other 200).size ≤ 200 := upT_le _ _
  generalize upT other 200 = B at *
  clear hn
  have z1 := sealT_size K N M A
  have z2 := sealT_size K N ⟨#[]⟩ B
  go_wp2_with fail
  refine (seal_ok K N M A (key_max HK2.out) HK2.out HN.out hM hA _).mono ?_
  rintro e w3 ⟨rfl, b3⟩
  go_wp2_with fail
  refine (seal_ok K N ⟨#[]⟩ B (key_max HK2.out) HK2.out HN.out (by show 0 ≤ 200; omega) hB _).mono ?_
  rintro e w4 ⟨rfl, b4⟩
  go_wp2_with fail
  refine (open_sealed K N M A (key_max HK2.out) HK2.out HN.out hM hA _).mono ?_
  rintro e w5 ⟨rfl, b5⟩
  go_wp2_with fail
  refine (xor_sealed K N M A hA _).mono ?_
  rintro e w6 ⟨rfl, b6⟩
  go_wp2_with fail
  refine (xor_sealed K N ⟨#[]⟩ B hB _).mono ?_
  rintro e w7 ⟨rfl, b7⟩
  have y1 := b1.size
  have y3 := b3.size
  have y4 := b4.size
  have y5 := b5.size
  have y6 := b6.size
  have BB : Below w.heap.size w w7 := ((((b1.trans (b3.mono (by omega))).trans (b4.mono (by omega))).trans (b5.mono (by omega))).trans (b6.mono (by omega))).trans (b7.mono (by omega))
  clear b1 b3 b4 b5 b6 b7 y1 y3 y4 y5 y6
  generalize streamF K (firstF K N) = F at *
  have x1 := str_size A.size F
  have x2 := str_size B.size F
  have HE : Hid ((str A.size F).extract 0 (min (A.size : Int) (B.size : Int)).toNat = (str B.size F).extract 0 (min (A.size : Int) (B.size : Int)).toNat) := by
    show _ = _
    rw [str_cut _ _ _ (by omega), str_cut _ _ _ (by omega)]
  go_wp2_with fail
  go_region
  all_goals
    go_wp2
    go_ret
    refine ⟨?_, BB.drew⟩
    show Ending.returned (.bool (((str A.size F).extract 0 (min (A.size : Int) (B.size : Int)).toNat).toList == ((str B.size F).extract 0 (min (A.size : Int) (B.size : Int)).toNat).toList)) = _
    rw [HE.out, beq_self_eq_true]
end Go.Proofs.Ytgalgjmhdbncbaa
