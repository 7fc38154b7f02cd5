import Derived.Test.YtgalgjmhdbncbaaG6
namespace Go.Proofs.Ytgalgjmhdbncbaa
open Go.RowKit
attribute [local go_sem ↓] Go.wp_at_zero Go.wp_at_succ
attribute [local go_sem ↓] ldw40 ldw50 ldw60 ldw63 ldw52 stw40 stw50 stw63 stw52 al40 al50 al60 al62 al63 al52 bd50 bd55
attribute [local go_sem] run_ldT40 run_ldT50 run_ldT60 run_ldT63 run_ldT52 ldN_row run_stT40 run_stT50 run_stT63 run_stT52 stN_row stN_z run_al40 run_al50 run_al60 run_al62 run_al63 run_al52 run_bd50 run_bd55
attribute [local go_sem] blk_new blk_at blk_old blk_drew blk_setCell blk_setRow alloc_setRow

/-- E(key, block) -/
def aesF (key f : Nat → UInt8) (n : Nat) : Nat → UInt8 := encF (ksF key n) f (n / 4 + 6)

set_option maxRecDepth 100000 in
set_option maxHeartbeats 1000000 in
theorem enc_key (key block : ByteArray) (hs : key.size ≤ maxLen) (h1 : key.size ≠ 16) (h2 : key.size ≠ 24) (h3 : key.size ≠ 32) (w : World) :
    Calls Try.prog 17 #[.string key, .string block] w fun e w' => e = .returned (.tuple #[.string ⟨#[]⟩, .int .i64 2]) ∧ Below w.heap.size w w' := by
  have H1 : Hid _ := h1
  have H2 : Hid _ := h2
  have H3 : Hid _ := h3
  clear h1 h2 h3
  go_enter Try.func17, Try.ntmps17
  go_wp2_with fail
  refine (new_no key hs H1 H2 H3 _).mono ?_
  rintro e w1 ⟨rfl, hw⟩
  subst hw
  go_wp2
  go_ret2
  exact ⟨rfl, Below.refl _ _⟩
set_option maxRecDepth 100000 in
set_option maxHeartbeats 1000000 in
theorem enc_size (key block : ByteArray) (hs : key.size ≤ maxLen) (h : key.size = 16 ∨ key.size = 24 ∨ key.size = 32) (hb : block.size ≠ 16) (w : World) :
    Calls Try.prog 17 #[.string key, .string block] w fun e w' => e = .returned (.tuple #[.string ⟨#[]⟩, .int .i64 5]) ∧ Below w.heap.size w w' := by
  have H : Hid _ := h
  have HB : Hid _ := hb
  clear h hb
  go_enter Try.func17, Try.ntmps17
  go_wp2_with fail
  refine (new_yes key hs H _).mono ?_
  rintro e w1 ⟨g, rfl, hg, hc, hb1⟩
  go_wp2_with fail
  refine (of_no _ _ HB).mono ?_
  rintro e w2 ⟨rfl, hb2⟩
  go_wp2
  go_ret2
  exact ⟨rfl, (hb1.trans (hb2.mono hb1.size)).alloc (by have := hb1.size; have := hb2.size; omega) _⟩
set_option maxRecDepth 100000 in
set_option maxHeartbeats 1000000 in
theorem enc_ok (key block : ByteArray) (hs : key.size ≤ maxLen) (h : key.size = 16 ∨ key.size = 24 ∨ key.size = 32) (hb : block.size = 16) (w : World) :
    Calls Try.prog 17 #[.string key, .string block] w fun e w' => e = .returned (.tuple #[.string (str 16 (aesF (sf key) (sf block) key.size)), .int .i64 0]) ∧ Below w.heap.size w w' := by
  have hr1 : 2 ≤ key.size / 4 + 6 := by omega
  have hr2 : key.size / 4 + 6 ≤ 14 := by omega
  have H : Hid _ := h
  have HB : Hid _ := hb
  clear h hb
  go_enter Try.func17, Try.ntmps17
  go_wp2_with fail
  refine (new_yes key hs H _).mono ?_
  rintro e w1 ⟨g, rfl, hg, hc, hb1⟩
  go_wp2_with fail
  refine (of_yes _ _ HB).mono ?_
  rintro e w2 ⟨rfl, hb2⟩
  have hc2 := hc.keep hb2
  have hcg : g < w2.heap.size := Row.lt hc2
  go_wp2_with fail
  refine (cipher_any g _ _ _ hr1 hr2 _ (hc2.alloc _)).mono ?_
  rintro e w3 ⟨rfl, hb3⟩
  go_wp2_with fail
  refine (text_any _ _).mono ?_
  rintro e w4 ⟨rfl, hb4⟩
  go_wp2
  go_ret2
  have z1 := hb1.size
  have z2 := hb2.size
  have z3 := hb3.size
  simp at z3
  exact ⟨rfl, (((hb1.trans (hb2.mono hb1.size)).alloc (by omega) _).trans (hb3.mono (by simp; omega))).trans (hb4.mono (by omega))⟩
end Go.Proofs.Ytgalgjmhdbncbaa
