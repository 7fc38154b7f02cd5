import Derived.Test.YtgalgjmhdbncbaaN3
import Derived.Test.YtgalgjmhdbncbaaSh
namespace Go.Proofs.Ytgalgjmhdbncbaa
open Go.RowKit

/-! ### padded, by the library's Repeat -/
theorem rep_zs : ∀ c : Fin 16, (⟨(Lib.repeatL [0] c.val).toArray⟩ : ByteArray) = zs c.val := by decide +kernel
theorem repeat_any (c : Nat) (hc : c < 16) (w : World) : Calls Try.prog 99 #[.string ⟨#[0]⟩, .int .i64 c] w fun e w' => e = .returned (.string (zs c)) ∧ Below w.heap.size w w' := by
  refine (Go.Proofs.Try.strings_Repeat ⟨#[0]⟩ c w (by omega) (by show 1 * c ≤ _; omega)).mono ?_
  rintro e w' ⟨rfl, hb⟩
  refine ⟨?_, hb⟩
  rw [← rep_zs ⟨c, hc⟩]
theorem pad_none (s : ByteArray) (h : s.size % 16 = 0) : padT s = s := by
  unfold padT
  rw [show up16 s.size = s.size by unfold up16; omega]
  exact str_sf s _ rfl
theorem pad_some (s : ByteArray) (h : s.size % 16 ≠ 0) : s ++ zs (16 - s.size % 16) = padT s := by
  have e := just_short s (up16 s.size) (up16_le _)
  rw [show up16 s.size - s.size = 16 - s.size % 16 by unfold up16; omega] at e
  exact e

set_option maxRecDepth 100000 in
set_option maxHeartbeats 400000 in
theorem padded_any (s : ByteArray) (hs : s.size ≤ 1000) (w : World) : Calls Try.prog 98 #[.string s] w fun e w' => e = .returned (.string (padT s)) ∧ Below w.heap.size w w' := by
  by_cases h : s.size % 16 = 0
  · have hd : ((s.size : Int) % 16 == 0) = true := by rw [beq_iff_eq]; omega
    have HP : Hid _ := pad_none s h
    clear h
    go_enter Try.func98, Try.ntmps98
    go_wp2
    go_ret
    exact ⟨by rw [HP.out]; rfl, Below.refl _ _⟩
  · have hd : ((s.size : Int) % 16 == 0) = false := by rw [beq_eq_false_iff_ne]; omega
    have HP : Hid _ := pad_some s h
    have hz := zs_size (16 - s.size % 16)
    have hR := fun W => repeat_any (16 - s.size % 16) (by omega) W
    rw [show ((16 - s.size % 16 : Nat) : Int) = 16 - (s.size : Int) % 16 by omega] at hR
    have HR : Hid _ := hR
    clear h hR
    go_enter Try.func98, Try.ntmps98
    go_wp2_with fail
    refine (HR.out _).mono ?_
    rintro e w1 ⟨rfl, hb⟩
    go_wp2
    go_ret
    exact ⟨by rw [← HP.out]; rfl, hb⟩
end Go.Proofs.Ytgalgjmhdbncbaa
