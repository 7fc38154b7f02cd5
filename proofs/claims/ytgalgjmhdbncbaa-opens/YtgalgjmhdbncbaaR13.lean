import Derived.Test.YtgalgjmhdbncbaaR12
namespace Go.Proofs.Ytgalgjmhdbncbaa
open Go.RowKit

/-! ### the reference's Open -/
set_option maxRecDepth 100000 in
set_option maxHeartbeats 1000000 in
theorem rOpen_key (key n m p : ByteArray) (hk : ¬ KeyLen key.size) (w : World) :
    Calls Try.prog 42 #[.string key, .string n, .string m, .string p] w fun e w' => e = .returned (.tuple #[.string ⟨#[]⟩, .int .i64 2]) ∧ Below w.heap.size w w' := by
  have HK : Hid _ := not_key hk
  clear hk
  go_enter Try.func42, Try.ntmps42
  go_wp2_with fail
  refine (rAlg_no key HK.out.1 HK.out.2.1 HK.out.2.2 _).mono ?_
  rintro e w1 ⟨rfl, hw⟩
  subst hw
  go_wp2
  go_ret2
  exact ⟨rfl, Below.refl _ _⟩
set_option maxRecDepth 100000 in
set_option maxHeartbeats 1000000 in
theorem rOpen_nonce (key n m p : ByteArray) (hk : KeyLen key.size) (hn : ¬ NonceLen n.size) (hz : n.size ≤ maxLen) (w : World) :
    Calls Try.prog 42 #[.string key, .string n, .string m, .string p] w fun e w' => e = .returned (.tuple #[.string ⟨#[]⟩, .int .i64 3]) ∧ Below w.heap.size w w' := by
  have HK : Hid _ := hk
  unfold maxLen at hz
  unfold NonceLen at hn
  clear hk
  by_cases h1 : n.size < 1
  · clear hn
    go_enter Try.func42, Try.ntmps42
    go_wp2_with fail
    refine (rAlg_yes key HK.out _).mono ?_
    rintro e w1 ⟨⟨a, ⟨ha, _⟩, rfl⟩, hw⟩
    subst hw
    have ha' : ((a : Int) == 0) = false := by rw [beq_eq_false_iff_ne]; omega
    go_wp2
    go_ret2
    exact ⟨rfl, Below.refl _ _⟩
  · have h2 : 40 < n.size := by omega
    clear hn
    go_enter Try.func42, Try.ntmps42
    go_wp2_with fail
    refine (rAlg_yes key HK.out _).mono ?_
    rintro e w1 ⟨⟨a, ⟨ha, _⟩, rfl⟩, hw⟩
    subst hw
    have ha' : ((a : Int) == 0) = false := by rw [beq_eq_false_iff_ne]; omega
    go_wp2
    go_ret2
    exact ⟨rfl, Below.refl _ _⟩
set_option maxRecDepth 100000 in
set_option maxHeartbeats 1000000 in
theorem rOpen_long (key n m p : ByteArray) (hk : KeyLen key.size) (hn : NonceLen n.size) (hl : 200 < m.size ∨ 216 < p.size) (hm : m.size ≤ maxLen) (hp : p.size ≤ maxLen) (w : World) :
    Calls Try.prog 42 #[.string key, .string n, .string m, .string p] w fun e w' => e = .returned (.tuple #[.string ⟨#[]⟩, .int .i64 4]) ∧ Below w.heap.size w w' := by
  have HK : Hid _ := hk
  obtain ⟨hn1, hn2⟩ := hn
  unfold maxLen at hm hp
  clear hk
  by_cases h1 : 200 < m.size
  · clear hl
    go_enter Try.func42, Try.ntmps42
    go_wp2_with fail
    refine (rAlg_yes key HK.out _).mono ?_
    rintro e w1 ⟨⟨a, ⟨ha, _⟩, rfl⟩, hw⟩
    subst hw
    have ha' : ((a : Int) == 0) = false := by rw [beq_eq_false_iff_ne]; omega
    go_wp2
    go_ret2
    exact ⟨rfl, Below.refl _ _⟩
  · have h2 : 216 < p.size := by omega
    clear hl
    go_enter Try.func42, Try.ntmps42
    go_wp2_with fail
    refine (rAlg_yes key HK.out _).mono ?_
    rintro e w1 ⟨⟨a, ⟨ha, _⟩, rfl⟩, hw⟩
    subst hw
    have ha' : ((a : Int) == 0) = false := by rw [beq_eq_false_iff_ne]; omega
    go_wp2
    go_ret2
    exact ⟨rfl, Below.refl _ _⟩
set_option maxRecDepth 100000 in
set_option maxHeartbeats 1000000 in
theorem rOpen_size (key n m p : ByteArray) (hk : KeyLen key.size) (hn : NonceLen n.size) (hm : m.size ≤ 200) (hp : p.size < 16) (w : World) :
    Calls Try.prog 42 #[.string key, .string n, .string m, .string p] w fun e w' => e = .returned (.tuple #[.string ⟨#[]⟩, .int .i64 5]) ∧ Below w.heap.size w w' := by
  have HK : Hid _ := hk
  obtain ⟨hn1, hn2⟩ := hn
  clear hk
  go_enter Try.func42, Try.ntmps42
  go_wp2_with fail
  refine (rAlg_yes key HK.out _).mono ?_
  rintro e w1 ⟨⟨a, ⟨ha, _⟩, rfl⟩, hw⟩
  subst hw
  have ha' : ((a : Int) == 0) = false := by rw [beq_eq_false_iff_ne]; omega
  go_wp2
  go_ret2
  exact ⟨rfl, Below.refl _ _⟩
set_option maxRecDepth 100000 in
set_option maxHeartbeats 1000000 in
theorem rOpen_mid (key n m p : ByteArray) (hk : KeyLen key.size) (hn : NonceLen n.size) (hm : m.size ≤ 200) (hp : 16 ≤ p.size) (hp2 : p.size ≤ 216) (ok : Bool)
    (hok : ((sealT key n m (maskT key (firstF key n) (p.extract 0 (p.size - 16)))).toList == p.toList) = ok) (w : World) :
    Calls Try.prog 42 #[.string key, .string n, .string m, .string p] w fun e w' => e = .returned (if ok = true then .tuple #[.string (maskT key (firstF key n) (p.extract 0 (p.size - 16))), .int .i64 0] else .tuple #[.string ⟨#[]⟩, .int .i64 6]) ∧ Below w.heap.size w w' := by
  have HK : Hid _ := hk
  have HN : Hid _ := hn
  obtain ⟨hn1, hn2⟩ := hn
  obtain ⟨E, hE⟩ : ∃ E, p.size = E + 16 := ⟨p.size - 16, by omega⟩
  rw [show p.size - 16 = E by omega] at hok ⊢
  have hi : ((p.size : Int) - 16) = (E : Int) := by omega
  have hE2 : (E : Int) ≤ (p.size : Int) := by omega
  have hE3 : E ≤ p.size := by omega
  have hcut := cut_size p 0 E hE3
  rw [Nat.sub_zero] at hcut
  have hB : (p.extract 0 E).size ≤ 200 := by omega
  have hms : ∀ b, (maskT key (firstF key n) b).size = b.size := fun b => maskT_size _ _ _
  generalize hbd : p.extract 0 E = Bd at *
  have hst := fun w => stream_ref key (firstF key n) Bd.size HK.out (by omega) w
  rw [hcut] at hst
  have hxm := fun w => rxor_mask key Bd (firstF key n) (by omega) w
  rw [hcut] at hxm
  have HSt : Hid _ := hst
  have HXm : Hid _ := hxm
  have hmB := hms Bd
  clear hk hst hxm hE hms
  generalize hmk : maskT key (firstF key n) Bd = Pl at *
  go_enter Try.func42, Try.ntmps42
  go_wp2_with fail
  refine (rAlg_yes key HK.out _).mono ?_
  rintro e w1 ⟨⟨a, ⟨ha, _⟩, rfl⟩, hw⟩
  subst hw
  have ha' : ((a : Int) == 0) = false := by rw [beq_eq_false_iff_ne]; omega
  go_wp2_with fail
  refine (first_ref key n HK.out (by omega) _).mono ?_
  rintro e w2 ⟨rfl, b2⟩
  go_wp2_with fail
  refine (HSt.out _).mono ?_
  rintro e w3 ⟨rfl, b3⟩
  go_wp2_with fail
  refine (HXm.out _).mono ?_
  rintro e w4 ⟨rfl, b4⟩
  go_wp2_with fail
  refine (rSeal_ok key n m Pl HK.out HN.out hm (by omega) _).mono ?_
  rintro e w5 ⟨rfl, b5⟩
  have y2 := b2.size
  have y3 := b3.size
  have y4 := b4.size
  have BB := ((b2.trans (b3.mono (by omega))).trans (b4.mono (by omega))).trans (b5.mono (by omega))
  clear b2 b3 b4 b5 y2 y3 y4
  cases ok
  · go_wp2
    go_ret2
    exact ⟨rfl, BB⟩
  · go_wp2
    go_ret2
    exact ⟨rfl, BB⟩
theorem beq_of {a b : ByteArray} (h : a = b) : (a.toList == b.toList) = true := by rw [h]; exact beq_self_eq_true _
theorem beq_not {a b : ByteArray} (h : a ≠ b) : (a.toList == b.toList) = false := by
  rw [beq_eq_false_iff_ne]
  intro e
  rw [ByteArray.toList_eq, ByteArray.toList_eq] at e
  exact h (WideShapes.bytes_inj e)
/-- both Opens answer the same -/
theorem openBoth (key n m p : ByteArray) (hs : key.size ≤ maxLen) (hn : n.size ≤ maxLen) (hm : m.size ≤ maxLen) (hp : p.size ≤ maxLen) : ∃ (v : ByteArray) (c : Int),
    (∀ w, Calls Try.prog 25 #[.string key, .string n, .string m, .string p] w fun e w' => e = .returned (.tuple #[.string v, .int .i64 c]) ∧ Below w.heap.size w w') ∧
    (∀ w, Calls Try.prog 42 #[.string key, .string n, .string m, .string p] w fun e w' => e = .returned (.tuple #[.string v, .int .i64 c]) ∧ Below w.heap.size w w') := by
  by_cases hk : KeyLen key.size
  · by_cases h1 : NonceLen n.size
    · by_cases h2 : 200 < m.size ∨ 216 < p.size
      · exact ⟨_, _, fun w => open_long key n m p hs hk h1 h2 hm hp w, fun w => rOpen_long key n m p hk h1 h2 hm hp w⟩
      · by_cases h3 : p.size < 16
        · exact ⟨_, _, fun w => open_size key n m p hs hk h1 (by omega) h3 w, fun w => rOpen_size key n m p hk h1 (by omega) h3 w⟩
        · have ho := sealT_open key n m p (by omega)
          by_cases h4 : str 16 (tagF key (firstF key n) m (p.extract 0 (p.size - 16))) = p.extract (p.size - 16) p.size
          · exact ⟨_, _, fun w => open_yes key n m p hs hk h1 (by omega) (by omega) (by omega) h4 w, fun w => rOpen_mid key n m p hk h1 (by omega) (by omega) (by omega) true (beq_of (ho.2 h4)) w⟩
          · exact ⟨_, _, fun w => open_no key n m p hs hk h1 (by omega) (by omega) (by omega) h4 w, fun w => rOpen_mid key n m p hk h1 (by omega) (by omega) (by omega) false (beq_not (fun e => h4 (ho.1 e))) w⟩
    · exact ⟨_, _, fun w => open_nonce key n m p hs hk h1 hn w, fun w => rOpen_nonce key n m p hk h1 hn w⟩
  · exact ⟨_, _, fun w => open_key key n m p hs hk w, fun w => rOpen_key key n m p hk w⟩
end Go.Proofs.Ytgalgjmhdbncbaa
