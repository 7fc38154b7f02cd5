import Derived.Test.YtgalgjmhdbncbaaN8
namespace Go.Proofs.Ytgalgjmhdbncbaa
open Go.RowKit
attribute [local go_sem ↓] Go.wp_at_zero Go.wp_at_succ
attribute [local go_sem ↓] ldw40 stw40 al40
attribute [local go_sem] run_ldT40 ldN_row run_stT40 stN_row stN_z run_al40 run_eq53
attribute [local go_sem] blk_new blk_at blk_old blk_drew blk_setCell blk_setRow alloc_setRow
structure SO (w0 w : World) (n g gc a : Nat) (key : ByteArray) (t J : Nat → UInt8) : Prop where
  m : Mod w g gc key
  r0 : Row w n 16 53 (by8 t)
  r1 : Row w a 16 53 (by8 J)
  b : Below n w0 w
theorem SO.drew {w0 w : World} {n g gc a : Nat} {key : ByteArray} {t J : Nat → UInt8} (h : SO w0 w n g gc a key t J) : SO w0 w.drew n g gc a key t J := ⟨h.m.drew, h.r0, h.r1, h.b.drew⟩
theorem SO.keep {w0 w w1 : World} {n g gc a : Nat} {key : ByteArray} {t J : Nat → UInt8} (h : SO w0 w n g gc a key t J) (hb : Below w.heap.size w w1) : SO w0 w1 n g gc a key t J :=
  ⟨h.m.keep hb, h.r0.keep hb h.r0.lt, h.r1.keep hb h.r1.lt, h.b.trans (hb.mono (Nat.le_of_lt h.r0.lt))⟩
set_option maxRecDepth 100000 in
set_option maxHeartbeats 1000000 in
theorem mopen_yes (g gc : Nat) (key n m b : ByteArray) (t : Nat → UInt8) (hk : KeyLen key.size) (hn : n.size ≤ 40) (hm : m.size ≤ 200) (hb : b.size ≤ 200) (ht : str 16 (tagF key (firstF key n) m b) = str 16 t) (w : World) (hM : Mod w g gc key) :
    Calls Try.prog 48 #[.pointer (some ⟨g, 0, none⟩), .string n, .string m, .string b, .agg (arr 16 (by8 t))] w fun e w' => e = .returned (.tuple #[.string (maskT key (firstF key n) b), .bool true]) ∧ Below w.heap.size w w' := by
  have HK : Hid _ := hk
  have hlt := hM.lt
  clear hk
  have hf := fun w' hM' => first_any g gc key n (by omega) w' hM'
  generalize firstF key n = J at *
  have hs := (same16_iff _ _).2 ht
  have HF : Hid _ := hf
  clear hf ht
  go_enter Try.func48, Try.ntmps48
  go_wp2_with fail
  refine (HF.out _ (hM.alloc _)).mono ?_
  rintro e w1 ⟨rfl, b1⟩
  have S1 : SO w (w1.alloc (.cells (arr 16 (by8 J)) 53)) w.heap.size g gc w1.heap.size key t J :=
    ⟨((hM.alloc (.cells (arr 16 (by8 t)) 53)).keep b1).alloc _, (Row.keep (Row.new w 16 53 (by8 t) _ rfl) b1 (by simp)).alloc _, Row.new _ _ _ _ _ rfl,
      (((Below.refl _ w).alloc (Nat.le_refl _) (.cells (arr 16 (by8 t)) 53)).trans (b1.mono (by simp))).alloc (by have := b1.size; simp at this; omega) _⟩
  clear hM HF
  go_wp2_with fail
  suffices H : ∀ W, SO w W w.heap.size g gc w1.heap.size key t J → Code.wp Try.prog _ _ _ W from H _ S1
  intro W hS
  clear S1 b1
  have q0 := heap_pos hS.r0
  have q1 := heap_pos hS.r1
  go_region_with (first
    | (go_at_call 67; refine (tag_any g gc key m b J HK.out (by omega) (by omega) _ hS.drew.m).mono ?_; rintro e w2 ⟨rfl, b2⟩; have hS := hS.drew.keep b2; have q0 := heap_pos hS.r0; have q1 := heap_pos hS.r1))
  all_goals
    go_wp2_with fail
    refine (crossed_any g gc key b J HK.out (by omega) _ hS.m).mono ?_
    rintro e w3 ⟨rfl, b3⟩
    have hS := hS.keep b3
    go_wp2
    go_ret2
    exact ⟨rfl, hS.b⟩
set_option maxRecDepth 100000 in
set_option maxHeartbeats 1000000 in
theorem mopen_no (g gc : Nat) (key n m b : ByteArray) (t : Nat → UInt8) (hk : KeyLen key.size) (hn : n.size ≤ 40) (hm : m.size ≤ 200) (hb : b.size ≤ 200) (ht : str 16 (tagF key (firstF key n) m b) ≠ str 16 t) (w : World) (hM : Mod w g gc key) :
    Calls Try.prog 48 #[.pointer (some ⟨g, 0, none⟩), .string n, .string m, .string b, .agg (arr 16 (by8 t))] w fun e w' => e = .returned (.tuple #[.string ⟨#[]⟩, .bool false]) ∧ Below w.heap.size w w' := by
  have HK : Hid _ := hk
  have hlt := hM.lt
  clear hk
  have hf := fun w' hM' => first_any g gc key n (by omega) w' hM'
  generalize firstF key n = J at *
  have hs : same16 (tagF key J m b) t = false := by
    cases h : same16 (tagF key J m b) t
    · rfl
    · exact absurd ((same16_iff _ _).1 h) ht
  have HF : Hid _ := hf
  clear hf ht
  go_enter Try.func48, Try.ntmps48
  go_wp2_with fail
  refine (HF.out _ (hM.alloc _)).mono ?_
  rintro e w1 ⟨rfl, b1⟩
  have S1 : SO w (w1.alloc (.cells (arr 16 (by8 J)) 53)) w.heap.size g gc w1.heap.size key t J :=
    ⟨((hM.alloc (.cells (arr 16 (by8 t)) 53)).keep b1).alloc _, (Row.keep (Row.new w 16 53 (by8 t) _ rfl) b1 (by simp)).alloc _, Row.new _ _ _ _ _ rfl,
      (((Below.refl _ w).alloc (Nat.le_refl _) (.cells (arr 16 (by8 t)) 53)).trans (b1.mono (by simp))).alloc (by have := b1.size; simp at this; omega) _⟩
  clear hM HF
  go_wp2_with fail
  suffices H : ∀ W, SO w W w.heap.size g gc w1.heap.size key t J → Code.wp Try.prog _ _ _ W from H _ S1
  intro W hS
  clear S1 b1
  have q0 := heap_pos hS.r0
  have q1 := heap_pos hS.r1
  go_region_with (first
    | (go_at_call 67; refine (tag_any g gc key m b J HK.out (by omega) (by omega) _ hS.drew.m).mono ?_; rintro e w2 ⟨rfl, b2⟩; have hS := hS.drew.keep b2; have q0 := heap_pos hS.r0; have q1 := heap_pos hS.r1))
  all_goals
    go_wp2
    go_ret2
    exact ⟨rfl, hS.b⟩
end Go.Proofs.Ytgalgjmhdbncbaa
