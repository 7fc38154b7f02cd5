import Derived.Test.YtgalgjmhdbncbaaR13
import Derived.Test.YtgalgjmhdbncbaaB8
namespace Go.Proofs.Ytgalgjmhdbncbaa
open Go.RowKit
attribute [local go_sem ↓] Go.wp_at_zero Go.wp_at_succ
attribute [local go_sem ↓] cv_wrap bs_wrap
attribute [local go_sem] run_cv cvRes_row cvRes_z blk_new blk_at blk_old blk_drew

set_option maxRecDepth 100000 in
set_option maxHeartbeats 1000000 in
theorem lopens_any (key n m p : ByteArray) (hs : key.size ≤ maxLen) (hn : n.size ≤ maxLen) (hm : m.size ≤ maxLen) (hp : p.size ≤ maxLen) (w : World) :
    Calls Try.prog 23 #[.string key, .string n, .string m, .string p] w fun e w' => e = .returned (.bool true) ∧ Below w.heap.size w w' := by
  obtain ⟨v, c, c1, c2⟩ := openBoth key n m p hs hn hm hp
  have C1 : Hid _ := c1
  have C2 : Hid _ := c2
  clear c1 c2 hs hn hm hp
  go_enter Try.func23, Try.ntmps23
  go_wp2_with fail
  refine (Hid.out C1 _).mono ?_
  rintro e w1 ⟨rfl, b1⟩
  go_wp2_with fail
  refine (Hid.out C2 _).mono ?_
  rintro e w2 ⟨rfl, b2⟩
  clear C1 C2
  go_wp2_with fail
  refine (num_any c _).mono ?_
  rintro e w3 ⟨rfl, hw⟩
  subst hw
  go_wp2
  go_ret
  exact ⟨rfl, b1.trans (b2.mono b1.size)⟩
/-- what the reference's Seal answers: an error, or a text of 16 to 216 bytes -/
theorem rseal_cases (key n m p : ByteArray) (hn : n.size ≤ maxLen) (hm : m.size ≤ maxLen) (hp : p.size ≤ maxLen) : ∃ (v : ByteArray) (c : Int), ((c = 0 ∧ 16 ≤ v.size ∧ v.size ≤ 216) ∨ (c != 0) = true) ∧
    (∀ w, Calls Try.prog 24 #[.string key, .string n, .string m, .string p] w fun e w' => e = .returned (.tuple #[.string v, .int .i64 c]) ∧ Below w.heap.size w w') := by
  by_cases hk : KeyLen key.size
  · by_cases h1 : NonceLen n.size
    · by_cases h2 : 200 < m.size ∨ 200 < p.size
      · exact ⟨_, _, .inr rfl, fun w => rSeal_long key n m p hk h1 h2 hm hp w⟩
      · exact ⟨_, _, .inl ⟨rfl, by rw [sealT_size]; omega, by rw [sealT_size]; omega⟩, fun w => rSeal_ok key n m p hk h1 (by omega) (by omega) w⟩
    · exact ⟨_, _, .inr rfl, fun w => rSeal_nonce key n m p hk h1 hn w⟩
  · exact ⟨_, _, .inr rfl, fun w => rSeal_key key n m p hk w⟩
set_option maxHeartbeats 400000 in
theorem lpick_any (c : Int) (n : Nat) (h1 : -9223372036854775808 ≤ c) (h2 : c ≤ 9223372036854775807) (hn : 0 < n) (hn2 : n ≤ 1000000) (w : World) :
    Calls Try.prog 26 #[.int .i64 c, .int .i64 n] w fun e w' => (∃ r : Nat, r < n ∧ e = .returned (.int .i64 r)) ∧ w' = w := by
  by_cases hc : c < 0
  · obtain ⟨r, hr, he⟩ := pick_neg c n hn hc
    have HE : Hid _ := he
    clear he
    go_enter Try.func26, Try.ntmps26
    go_wp2
    go_ret
    exact ⟨⟨r, hr, by rw [← HE.out]; rfl⟩, rfl⟩
  · obtain ⟨r, hr, he⟩ := pick_pos c n hn
    have HE : Hid _ := he
    clear he
    go_enter Try.func26, Try.ntmps26
    go_wp2
    go_ret
    exact ⟨⟨r, hr, by rw [← HE.out]; rfl⟩, rfl⟩
theorem known_tag : str 16 (tagF (zs 16) (firstF (zs 16) (zs 12)) ⟨#[]⟩ ⟨#[]⟩) = ⟨OZ.toArray⟩ := by
  rw [← seal_known]
  unfold sealT
  have e : maskT (zs 16) (firstF (zs 16) (zs 12)) ⟨#[]⟩ = ⟨#[]⟩ := rfl
  rw [e]
  exact ByteArray.empty_append.symm
theorem known_open_no (x : ByteArray) (h1 : x.size = 16) (h2 : x ≠ ⟨OZ.toArray⟩) (w : World) : Calls Try.prog 25 #[.string (zs 16), .string (zs 12), .string ⟨#[]⟩, .string x] w fun e w' => e = .returned (.tuple #[.string ⟨#[]⟩, .int .i64 6]) ∧ Below w.heap.size w w' := by
  have hk : KeyLen (zs 16).size := .inl (zs_size 16)
  have e0 : x.extract 0 (x.size - 16) = ⟨#[]⟩ := by
    apply bytes_ext
    · rw [cut_size _ _ _ (by omega), h1]; rfl
    · intro j hj
      rw [cut_size _ _ _ (by omega)] at hj
      omega
  have e1 : x.extract (x.size - 16) x.size = x := by
    rw [h1]
    apply bytes_ext
    · rw [cut_size _ _ _ (by omega), h1]
    · intro j hj
      rw [cut_size _ _ _ (by omega)] at hj
      rw [sf_cut _ _ _ _ (by omega) (by omega)]
      congr 1
      omega
  refine open_no (zs 16) (zs 12) ⟨#[]⟩ x (key_max hk) hk ⟨by rw [zs_size]; omega, by rw [zs_size]; omega⟩ (by show 0 ≤ 200; omega) (by omega) (by omega) ?_ w
  rw [e0, e1, known_tag]
  exact fun e => h2 e.symm
end Go.Proofs.Ytgalgjmhdbncbaa
