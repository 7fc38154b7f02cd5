import Derived.Test.YtgalgjmhdbncbaaR12
import Derived.Test.YtgalgjmhdbncbaaM8
import Derived.Test.YtgalgjmhdbncbaaB5
namespace Go.Proofs.Ytgalgjmhdbncbaa
open Go.RowKit
attribute [local go_sem ↓] Go.wp_at_zero Go.wp_at_succ
attribute [local go_sem ↓] cv_wrap
attribute [local go_sem] run_cv cvRes_row cvRes_z blk_new blk_at blk_old blk_drew

theorem zs_cut (n l : Nat) (h : l ≤ n) : (zs n).extract 0 l = zs l := str_cut n l _ h
theorem known_seal (w : World) : Calls Try.prog 21 #[.string (zs 16), .string (zs 12), .string ⟨#[]⟩, .string ⟨#[]⟩] w fun e w' => e = .returned (.tuple #[.string ⟨#[88, 226, 252, 206, 250, 126, 48, 97, 54, 127, 29, 87, 164, 231, 69, 90]⟩, .int .i64 0]) ∧ Below w.heap.size w w' := by
  have hk : KeyLen (zs 16).size := .inl (zs_size 16)
  refine (seal_ok (zs 16) (zs 12) ⟨#[]⟩ ⟨#[]⟩ (key_max hk) hk ⟨by rw [zs_size]; omega, by rw [zs_size]; omega⟩ (by show 0 ≤ 200; omega) (by show 0 ≤ 200; omega) w).mono ?_
  rintro e w' ⟨rfl, hb⟩
  refine ⟨?_, hb⟩
  rw [seal_known]
  rfl
set_option maxRecDepth 100000 in
set_option maxHeartbeats 1000000 in
theorem lseals_any (key n m p : ByteArray) (hs : key.size ≤ maxLen) (hn : n.size ≤ maxLen) (hm : m.size ≤ maxLen) (hp : p.size ≤ maxLen) (w : World) :
    Calls Try.prog 22 #[.string key, .string n, .string m, .string p] w fun e w' => e = .returned (.bool true) ∧ Below w.heap.size w w' := by
  obtain ⟨v, c, c1, c2⟩ := sealBoth key n m p hs hn hm hp
  have C1 : Hid _ := c1
  have C2 : Hid _ := c2
  clear c1 c2 hs hn hm hp
  go_enter Try.func22, Try.ntmps22
  go_wp2_with fail
  refine (Hid.out C1 _).mono ?_
  rintro e w1 ⟨rfl, b1⟩
  go_wp2_with fail
  refine (Hid.out C2 _).mono ?_
  rintro e w2 ⟨rfl, b2⟩
  clear C1 C2
  go_wp2_with fail
  refine (num_any c _).mono ?_
  rintro e w3 ⟨rfl, hw⟩
  subst hw
  go_wp2
  go_ret
  exact ⟨rfl, b1.trans (b2.mono b1.size)⟩
set_option maxRecDepth 100000 in
set_option maxHeartbeats 1000000 in
theorem seals_law (key n m p : ByteArray) (hs : key.size ≤ maxLen) (hn : n.size ≤ maxLen) (hm : m.size ≤ maxLen) (hp : p.size ≤ maxLen) (w : World) :
    Calls Try.prog 6 #[.string key, .string n, .string m, .string p] w fun e w' => e = .returned (.bool true) ∧ Below w.heap.size w w' := by
  have hm16 : ∀ w, (Instr.makeSlice 31 (.int .i64 16) (.int .i64 16)).run Try.prog w = .ok (.slice (some ⟨w.heap.size, 0, none⟩) 16 16) (w.alloc (.cells (arr 16 z8) 5)) := fun w => mk8 16 (by omega) w
  have hc := zs_cut 16 12 (by omega)
  have hz := zs_size 16
  have HS : Hid _ := hs
  have HN : Hid _ := hn
  have HM : Hid _ := hm
  have HP : Hid _ := hp
  clear hs hn hm hp
  go_enter Try.func6, Try.ntmps6
  go_wp2_with fail
  refine (known_seal _).mono ?_
  rintro e w1 ⟨rfl, b1⟩
  go_wp2_with fail
  refine (lseals_any key n m p HS.out HN.out HM.out HP.out _).mono ?_
  rintro e w2 ⟨rfl, b2⟩
  go_wp2
  go_ret
  have z1 := b1.size
  simp at z1
  exact ⟨rfl, (((Below.refl _ w).alloc (Nat.le_refl _) _).trans (b1.mono (by simp))).trans (b2.mono (by omega))⟩
end Go.Proofs.Ytgalgjmhdbncbaa
