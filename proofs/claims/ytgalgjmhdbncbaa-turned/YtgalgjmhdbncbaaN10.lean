import Derived.Test.YtgalgjmhdbncbaaN9
namespace Go.Proofs.Ytgalgjmhdbncbaa
open Go.RowKit
attribute [local go_sem ↓] Go.wp_at_zero Go.wp_at_succ
attribute [local go_sem ↓] ldw40 stw40 al40
attribute [local go_sem] run_ldT40 ldN_row run_stT40 stN_row stN_z run_al40
attribute [local go_sem] blk_new blk_at blk_old blk_drew blk_setCell blk_setRow alloc_setRow

/-- a nonce's size -/
def NonceLen (n : Nat) : Prop := 1 ≤ n ∧ n ≤ 40
set_option maxRecDepth 100000 in
set_option maxHeartbeats 1000000 in
theorem ready_key (key n : ByteArray) (hs : key.size ≤ maxLen) (hk : ¬ KeyLen key.size) (w : World) :
    Calls Try.prog 40 #[.string key, .string n] w fun e w' => e = .returned (.tuple #[.pointer none, .int .i64 2]) ∧ Below w.heap.size w w' := by
  go_enter Try.func40, Try.ntmps40
  go_wp2_with fail
  refine (gnew_no key hs hk _).mono ?_
  rintro e w1 ⟨rfl, hw⟩
  subst hw
  go_wp2
  go_ret2
  exact ⟨rfl, Below.refl _ _⟩
set_option maxRecDepth 100000 in
set_option maxHeartbeats 1000000 in
theorem ready_nonce (key n : ByteArray) (hs : key.size ≤ maxLen) (hk : KeyLen key.size) (hn : ¬ NonceLen n.size) (hz : n.size ≤ maxLen) (w : World) :
    Calls Try.prog 40 #[.string key, .string n] w fun e w' => e = .returned (.tuple #[.pointer none, .int .i64 3]) ∧ Below w.heap.size w w' := by
  have HK : Hid _ := hk
  unfold maxLen at hz
  unfold NonceLen at hn
  clear hk
  by_cases h1 : n.size < 1
  · clear hn
    go_enter Try.func40, Try.ntmps40
    go_wp2_with fail
    refine (gnew_yes key hs HK.out _).mono ?_
    rintro e w1 ⟨g, gc, rfl, _, _, _, hb⟩
    go_wp2
    go_ret2
    exact ⟨rfl, hb⟩
  · have h2 : 40 < n.size := by omega
    clear hn
    go_enter Try.func40, Try.ntmps40
    go_wp2_with fail
    refine (gnew_yes key hs HK.out _).mono ?_
    rintro e w1 ⟨g, gc, rfl, _, _, _, hb⟩
    go_wp2
    go_ret2
    exact ⟨rfl, hb⟩
set_option maxRecDepth 100000 in
set_option maxHeartbeats 1000000 in
theorem ready_ok (key n : ByteArray) (hs : key.size ≤ maxLen) (hk : KeyLen key.size) (hn : NonceLen n.size) (w : World) :
    Calls Try.prog 40 #[.string key, .string n] w fun e w' => ∃ g gc, e = .returned (.tuple #[.pointer (some ⟨g, 0, none⟩), .int .i64 0]) ∧ w.heap.size ≤ g ∧ w.heap.size ≤ gc ∧ Mod w' g gc key ∧ Below w.heap.size w w' := by
  have HK : Hid _ := hk
  obtain ⟨h1, h2⟩ := hn
  clear hk
  go_enter Try.func40, Try.ntmps40
  go_wp2_with fail
  refine (gnew_yes key hs HK.out _).mono ?_
  rintro e w1 ⟨g, gc, rfl, hg, hgc, hM, hb⟩
  go_wp2
  go_ret2
  exact ⟨g, gc, rfl, hg, hgc, hM, hb⟩

/-! ### Seal -/
set_option maxRecDepth 100000 in
set_option maxHeartbeats 1000000 in
theorem seal_key (key n m p : ByteArray) (hs : key.size ≤ maxLen) (hk : ¬ KeyLen key.size) (w : World) :
    Calls Try.prog 21 #[.string key, .string n, .string m, .string p] w fun e w' => e = .returned (.tuple #[.string ⟨#[]⟩, .int .i64 2]) ∧ Below w.heap.size w w' := by
  go_enter Try.func21, Try.ntmps21
  go_wp2_with fail
  refine (ready_key key n hs hk _).mono ?_
  rintro e w1 ⟨rfl, hb⟩
  go_wp2
  go_ret2
  exact ⟨rfl, hb⟩
set_option maxRecDepth 100000 in
set_option maxHeartbeats 1000000 in
theorem seal_nonce (key n m p : ByteArray) (hs : key.size ≤ maxLen) (hk : KeyLen key.size) (hn : ¬ NonceLen n.size) (hz : n.size ≤ maxLen) (w : World) :
    Calls Try.prog 21 #[.string key, .string n, .string m, .string p] w fun e w' => e = .returned (.tuple #[.string ⟨#[]⟩, .int .i64 3]) ∧ Below w.heap.size w w' := by
  go_enter Try.func21, Try.ntmps21
  go_wp2_with fail
  refine (ready_nonce key n hs hk hn hz _).mono ?_
  rintro e w1 ⟨rfl, hb⟩
  go_wp2
  go_ret2
  exact ⟨rfl, hb⟩
set_option maxRecDepth 100000 in
set_option maxHeartbeats 1000000 in
theorem seal_long (key n m p : ByteArray) (hs : key.size ≤ maxLen) (hk : KeyLen key.size) (hn : NonceLen n.size) (hl : 200 < m.size ∨ 200 < p.size) (hm : m.size ≤ maxLen) (hp : p.size ≤ maxLen) (w : World) :
    Calls Try.prog 21 #[.string key, .string n, .string m, .string p] w fun e w' => e = .returned (.tuple #[.string ⟨#[]⟩, .int .i64 4]) ∧ Below w.heap.size w w' := by
  have HK : Hid _ := hk
  have HN : Hid _ := hn
  unfold maxLen at hm hp
  clear hk hn
  by_cases h1 : 200 < m.size
  · clear hl
    go_enter Try.func21, Try.ntmps21
    go_wp2_with fail
    refine (ready_ok key n hs HK.out HN.out _).mono ?_
    rintro e w1 ⟨g, gc, rfl, _, _, _, hb⟩
    go_wp2
    go_ret2
    exact ⟨rfl, hb⟩
  · have h2 : 200 < p.size := by omega
    clear hl
    go_enter Try.func21, Try.ntmps21
    go_wp2_with fail
    refine (ready_ok key n hs HK.out HN.out _).mono ?_
    rintro e w1 ⟨g, gc, rfl, _, _, _, hb⟩
    go_wp2
    go_ret2
    exact ⟨rfl, hb⟩
set_option maxRecDepth 100000 in
set_option maxHeartbeats 1000000 in
theorem seal_ok (key n m p : ByteArray) (hs : key.size ≤ maxLen) (hk : KeyLen key.size) (hn : NonceLen n.size) (hm : m.size ≤ 200) (hp : p.size ≤ 200) (w : World) :
    Calls Try.prog 21 #[.string key, .string n, .string m, .string p] w fun e w' => e = .returned (.tuple #[.string (sealT key n m p), .int .i64 0]) ∧ Below w.heap.size w w' := by
  have HK : Hid _ := hk
  have HN : Hid _ := hn
  have hz := maskT_size key (firstF key n) p
  have hz2 := str_size 16 (tagF key (firstF key n) m (maskT key (firstF key n) p))
  have HT : Hid (sealT key n m p = maskT key (firstF key n) p ++ str 16 (tagF key (firstF key n) m (maskT key (firstF key n) p))) := rfl
  clear hk hn
  go_enter Try.func21, Try.ntmps21
  go_wp2_with fail
  refine (ready_ok key n hs HK.out HN.out _).mono ?_
  rintro e w1 ⟨g, gc, rfl, hg, hgc, hM, hb⟩
  go_wp2_with fail
  refine (mseal_any g gc key n m p HK.out HN.out.2 hm hp _ hM).mono ?_
  rintro e w2 ⟨rfl, b2⟩
  go_wp2_with fail
  refine (text_any _ _).mono ?_
  rintro e w3 ⟨rfl, b3⟩
  go_wp2
  go_ret2
  have z1 := hb.size
  have z2 := b2.size
  refine ⟨by rw [HT.out]; rfl, ((hb.trans (b2.mono z1)).alloc (by omega) _).trans (b3.mono (by simp; omega))⟩

/-! ### Open -/
set_option maxRecDepth 100000 in
set_option maxHeartbeats 1000000 in
theorem open_key (key n m p : ByteArray) (hs : key.size ≤ maxLen) (hk : ¬ KeyLen key.size) (w : World) :
    Calls Try.prog 25 #[.string key, .string n, .string m, .string p] w fun e w' => e = .returned (.tuple #[.string ⟨#[]⟩, .int .i64 2]) ∧ Below w.heap.size w w' := by
  go_enter Try.func25, Try.ntmps25
  go_wp2_with fail
  refine (ready_key key n hs hk _).mono ?_
  rintro e w1 ⟨rfl, hb⟩
  go_wp2
  go_ret2
  exact ⟨rfl, hb⟩
set_option maxRecDepth 100000 in
set_option maxHeartbeats 1000000 in
theorem open_nonce (key n m p : ByteArray) (hs : key.size ≤ maxLen) (hk : KeyLen key.size) (hn : ¬ NonceLen n.size) (hz : n.size ≤ maxLen) (w : World) :
    Calls Try.prog 25 #[.string key, .string n, .string m, .string p] w fun e w' => e = .returned (.tuple #[.string ⟨#[]⟩, .int .i64 3]) ∧ Below w.heap.size w w' := by
  go_enter Try.func25, Try.ntmps25
  go_wp2_with fail
  refine (ready_nonce key n hs hk hn hz _).mono ?_
  rintro e w1 ⟨rfl, hb⟩
  go_wp2
  go_ret2
  exact ⟨rfl, hb⟩
set_option maxRecDepth 100000 in
set_option maxHeartbeats 1000000 in
theorem open_long (key n m p : ByteArray) (hs : key.size ≤ maxLen) (hk : KeyLen key.size) (hn : NonceLen n.size) (hl : 200 < m.size ∨ 216 < p.size) (hm : m.size ≤ maxLen) (hp : p.size ≤ maxLen) (w : World) :
    Calls Try.prog 25 #[.string key, .string n, .string m, .string p] w fun e w' => e = .returned (.tuple #[.string ⟨#[]⟩, .int .i64 4]) ∧ Below w.heap.size w w' := by
  have HK : Hid _ := hk
  have HN : Hid _ := hn
  unfold maxLen at hm hp
  clear hk hn
  by_cases h1 : 200 < m.size
  · clear hl
    go_enter Try.func25, Try.ntmps25
    go_wp2_with fail
    refine (ready_ok key n hs HK.out HN.out _).mono ?_
    rintro e w1 ⟨g, gc, rfl, _, _, _, hb⟩
    go_wp2
    go_ret2
    exact ⟨rfl, hb⟩
  · have h2 : 216 < p.size := by omega
    clear hl
    go_enter Try.func25, Try.ntmps25
    go_wp2_with fail
    refine (ready_ok key n hs HK.out HN.out _).mono ?_
    rintro e w1 ⟨g, gc, rfl, _, _, _, hb⟩
    go_wp2
    go_ret2
    exact ⟨rfl, hb⟩
set_option maxRecDepth 100000 in
set_option maxHeartbeats 1000000 in
theorem open_size (key n m p : ByteArray) (hs : key.size ≤ maxLen) (hk : KeyLen key.size) (hn : NonceLen n.size) (hm : m.size ≤ 200) (hp : p.size < 16) (w : World) :
    Calls Try.prog 25 #[.string key, .string n, .string m, .string p] w fun e w' => e = .returned (.tuple #[.string ⟨#[]⟩, .int .i64 5]) ∧ Below w.heap.size w w' := by
  have HK : Hid _ := hk
  have HN : Hid _ := hn
  clear hk hn
  go_enter Try.func25, Try.ntmps25
  go_wp2_with fail
  refine (ready_ok key n hs HK.out HN.out _).mono ?_
  rintro e w1 ⟨g, gc, rfl, _, _, _, hb⟩
  go_wp2
  go_ret2
  exact ⟨rfl, hb⟩
end Go.Proofs.Ytgalgjmhdbncbaa
