import Derived.Test.YtgalgjmhdbncbaaR11
import Derived.Test.YtgalgjmhdbncbaaN11
namespace Go.Proofs.Ytgalgjmhdbncbaa
open Go.RowKit

/-! ### the reference's Seal and Open -/
theorem rxor_mask (key p : ByteArray) (J : Nat → UInt8) (hp : p.size ≤ 1000) (w : World) : Calls Try.prog 46 #[.string p, .string (str p.size (streamF key J))] w fun e w' => e = .returned (.string (maskT key J p)) ∧ Below w.heap.size w w' := by
  have h := rxor_ref p.size (sf p) (streamF key J) (by omega) w
  rw [str_sf p _ rfl] at h
  exact h
theorem not_key {n : Nat} (h : ¬ KeyLen n) : n ≠ 16 ∧ n ≠ 24 ∧ n ≠ 32 := ⟨fun e => h (.inl e), fun e => h (.inr (.inl e)), fun e => h (.inr (.inr e))⟩
set_option maxRecDepth 100000 in
set_option maxHeartbeats 1000000 in
theorem rSeal_key (key n m p : ByteArray) (hk : ¬ KeyLen key.size) (w : World) :
    Calls Try.prog 24 #[.string key, .string n, .string m, .string p] w fun e w' => e = .returned (.tuple #[.string ⟨#[]⟩, .int .i64 2]) ∧ Below w.heap.size w w' := by
  have HK : Hid _ := not_key hk
  clear hk
  go_enter Try.func24, Try.ntmps24
  go_wp2_with fail
  refine (rAlg_no key HK.out.1 HK.out.2.1 HK.out.2.2 _).mono ?_
  rintro e w1 ⟨rfl, hw⟩
  subst hw
  go_wp2
  go_ret2
  exact ⟨rfl, Below.refl _ _⟩
set_option maxRecDepth 100000 in
set_option maxHeartbeats 1000000 in
theorem rSeal_nonce (key n m p : ByteArray) (hk : KeyLen key.size) (hn : ¬ NonceLen n.size) (hz : n.size ≤ maxLen) (w : World) :
    Calls Try.prog 24 #[.string key, .string n, .string m, .string p] w fun e w' => e = .returned (.tuple #[.string ⟨#[]⟩, .int .i64 3]) ∧ Below w.heap.size w w' := by
  have HK : Hid _ := hk
  unfold maxLen at hz
  unfold NonceLen at hn
  clear hk
  by_cases h1 : n.size < 1
  · clear hn
    go_enter Try.func24, Try.ntmps24
    go_wp2_with fail
    refine (rAlg_yes key HK.out _).mono ?_
    rintro e w1 ⟨⟨a, ⟨ha, _⟩, rfl⟩, hw⟩
    subst hw
    have ha' : ((a : Int) == 0) = false := by rw [beq_eq_false_iff_ne]; omega
    go_wp2
    go_ret2
    exact ⟨rfl, Below.refl _ _⟩
  · have h2 : 40 < n.size := by omega
    clear hn
    go_enter Try.func24, Try.ntmps24
    go_wp2_with fail
    refine (rAlg_yes key HK.out _).mono ?_
    rintro e w1 ⟨⟨a, ⟨ha, _⟩, rfl⟩, hw⟩
    subst hw
    have ha' : ((a : Int) == 0) = false := by rw [beq_eq_false_iff_ne]; omega
    go_wp2
    go_ret2
    exact ⟨rfl, Below.refl _ _⟩
set_option maxRecDepth 100000 in
set_option maxHeartbeats 1000000 in
theorem rSeal_long (key n m p : ByteArray) (hk : KeyLen key.size) (hn : NonceLen n.size) (hl : 200 < m.size ∨ 200 < p.size) (hm : m.size ≤ maxLen) (hp : p.size ≤ maxLen) (w : World) :
    Calls Try.prog 24 #[.string key, .string n, .string m, .string p] w fun e w' => e = .returned (.tuple #[.string ⟨#[]⟩, .int .i64 4]) ∧ Below w.heap.size w w' := by
  have HK : Hid _ := hk
  obtain ⟨hn1, hn2⟩ := hn
  unfold maxLen at hm hp
  clear hk
  by_cases h1 : 200 < m.size
  · clear hl
    go_enter Try.func24, Try.ntmps24
    go_wp2_with fail
    refine (rAlg_yes key HK.out _).mono ?_
    rintro e w1 ⟨⟨a, ⟨ha, _⟩, rfl⟩, hw⟩
    subst hw
    have ha' : ((a : Int) == 0) = false := by rw [beq_eq_false_iff_ne]; omega
    go_wp2
    go_ret2
    exact ⟨rfl, Below.refl _ _⟩
  · have h2 : 200 < p.size := by omega
    clear hl
    go_enter Try.func24, Try.ntmps24
    go_wp2_with fail
    refine (rAlg_yes key HK.out _).mono ?_
    rintro e w1 ⟨⟨a, ⟨ha, _⟩, rfl⟩, hw⟩
    subst hw
    have ha' : ((a : Int) == 0) = false := by rw [beq_eq_false_iff_ne]; omega
    go_wp2
    go_ret2
    exact ⟨rfl, Below.refl _ _⟩
set_option maxRecDepth 100000 in
set_option maxHeartbeats 1000000 in
theorem rSeal_ok (key n m p : ByteArray) (hk : KeyLen key.size) (hn : NonceLen n.size) (hm : m.size ≤ 200) (hp : p.size ≤ 200) (w : World) :
    Calls Try.prog 24 #[.string key, .string n, .string m, .string p] w fun e w' => e = .returned (.tuple #[.string (sealT key n m p), .int .i64 0]) ∧ Below w.heap.size w w' := by
  have HK : Hid _ := hk
  obtain ⟨hn1, hn2⟩ := hn
  have hz := maskT_size key (firstF key n) p
  have hz2 := str_size 16 (tagF key (firstF key n) m (maskT key (firstF key n) p))
  have HT : Hid (sealT key n m p = maskT key (firstF key n) p ++ str 16 (tagF key (firstF key n) m (maskT key (firstF key n) p))) := rfl
  clear hk
  go_enter Try.func24, Try.ntmps24
  go_wp2_with fail
  refine (rAlg_yes key HK.out _).mono ?_
  rintro e w1 ⟨⟨a, ⟨ha, _⟩, rfl⟩, hw⟩
  subst hw
  have ha' : ((a : Int) == 0) = false := by rw [beq_eq_false_iff_ne]; omega
  go_wp2_with fail
  refine (first_ref key n HK.out (by omega) _).mono ?_
  rintro e w2 ⟨rfl, b2⟩
  go_wp2_with fail
  refine (stream_ref key (firstF key n) p.size HK.out (by omega) _).mono ?_
  rintro e w3 ⟨rfl, b3⟩
  go_wp2_with fail
  refine (rxor_mask key p (firstF key n) (by omega) _).mono ?_
  rintro e w4 ⟨rfl, b4⟩
  go_wp2_with fail
  refine (tag_ref key m _ (firstF key n) HK.out (by omega) (by omega) _).mono ?_
  rintro e w5 ⟨rfl, b5⟩
  go_wp2
  go_ret2
  have y2 := b2.size
  have y3 := b3.size
  have y4 := b4.size
  exact ⟨by rw [HT.out]; rfl, ((b2.trans (b3.mono (by omega))).trans (b4.mono (by omega))).trans (b5.mono (by omega))⟩
/-- both Seals answer the same -/
theorem sealBoth (key n m p : ByteArray) (hs : key.size ≤ maxLen) (hn : n.size ≤ maxLen) (hm : m.size ≤ maxLen) (hp : p.size ≤ maxLen) : ∃ (v : ByteArray) (c : Int),
    (∀ w, Calls Try.prog 21 #[.string key, .string n, .string m, .string p] w fun e w' => e = .returned (.tuple #[.string v, .int .i64 c]) ∧ Below w.heap.size w w') ∧
    (∀ w, Calls Try.prog 24 #[.string key, .string n, .string m, .string p] w fun e w' => e = .returned (.tuple #[.string v, .int .i64 c]) ∧ Below w.heap.size w w') := by
  by_cases hk : KeyLen key.size
  · by_cases h1 : NonceLen n.size
    · by_cases h2 : 200 < m.size ∨ 200 < p.size
      · exact ⟨_, _, fun w => seal_long key n m p hs hk h1 h2 hm hp w, fun w => rSeal_long key n m p hk h1 h2 hm hp w⟩
      · exact ⟨_, _, fun w => seal_ok key n m p hs hk h1 (by omega) (by omega) w, fun w => rSeal_ok key n m p hk h1 (by omega) (by omega) w⟩
    · exact ⟨_, _, fun w => seal_nonce key n m p hs hk h1 hn w, fun w => rSeal_nonce key n m p hk h1 hn w⟩
  · exact ⟨_, _, fun w => seal_key key n m p hs hk w, fun w => rSeal_key key n m p hk w⟩
end Go.Proofs.Ytgalgjmhdbncbaa
