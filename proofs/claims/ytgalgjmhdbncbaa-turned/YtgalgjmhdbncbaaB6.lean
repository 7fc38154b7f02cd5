import Derived.Test.YtgalgjmhdbncbaaB5
namespace Go.Proofs.Ytgalgjmhdbncbaa
open Go.RowKit
attribute [local go_sem ↓] Go.wp_at_zero Go.wp_at_succ
attribute [local go_sem ↓] bs_wrap

/-! ### keep's turned -/
theorem wrap_d : ∀ d : Fin 255, IntKind.u8.wrap (IntKind.i64.wrap (1 + (d.val : Int))) = ((UInt8.ofNat (1 + d.val)).toNat : Int) := by decide +kernel
theorem turn_end (s : ByteArray) (p : Nat) (d : UInt8) : str s.size (fun j => if j = p then sf s p ^^^ d else sf s j) = turnT s p d := by
  unfold turnT
  exact str_congr fun j _ => by
    by_cases h : j = p
    · subst h; rw [if_pos rfl]
    · rw [if_neg h, if_neg h]
set_option maxRecDepth 100000 in
set_option maxHeartbeats 1000000 in
theorem turned_any (s : ByteArray) (i v : Int) (hs : 1 ≤ s.size) (hs2 : s.size ≤ 1000) (h1 : -9223372036854775808 ≤ i) (h2 : i ≤ 9223372036854775807) (h3 : -9223372036854775808 ≤ v) (h4 : v ≤ 9223372036854775807) (w : World) :
    Calls Try.prog 28 #[.string s, .int .i64 i, .int .i64 v] w fun e w' => (∃ (p : Nat) (d : UInt8), p < s.size ∧ d ≠ 0 ∧ e = .returned (.string (turnT s p d))) ∧ Below w.heap.size w w' := by
  obtain ⟨cap, o, hcap, hrun, hBy⟩ := bs_run s w
  replace hrun : Sem.run Try.prog (Bs (.string s)) w = _ := hrun
  go_enter Try.func28, Try.ntmps28
  go_wp2_with fail
  refine (pick_any i s.size h1 h2 (by omega) (by omega) _).mono ?_
  rintro e w1 ⟨⟨p, hp, rfl⟩, hw⟩
  have BY : By w1 w.heap.size s.size (sf s) := by rw [hw]; exact hBy
  have BB : Below w.heap.size w w1 := by rw [hw]; exact ((Below.refl _ w).alloc (Nat.le_refl _) o).drew
  clear hw hrun hBy
  have c0 := (BY.2 p hp).1
  have f0 := (BY.2 p hp).2
  have hpi : (p : Int) < (s.size : Int) := by omega
  go_wp2_with fail
  go_region_with (first
    | (go_at_call 18; refine (pick_any v 255 h3 h4 (by omega) (by omega) _).mono ?_; rintro e w3 ⟨⟨d, hd, rfl⟩, hw⟩; subst hw))
  all_goals
    have hdn : UInt8.ofNat (1 + d) ≠ 0 := by
      intro e
      have := congrArg UInt8.toNat e
      rw [UInt8.toNat_ofNat'] at this
      have h0 : (0 : UInt8).toNat = 0 := rfl
      omega
    have hw1 := wrap_d ⟨d, hd⟩
    simp only at hw1
    rw [hw1]
    clear hw1
    generalize UInt8.ofNat (1 + d) = x at *
    rw [u8_xor_b]
    have BY2 := (BY.set hp (sf s p ^^^ x)).drew
    have BB2 := (BB.setCell (p := ⟨w.heap.size, p, none⟩) (Nat.le_refl _) (.int .u8 ((sf s p ^^^ x).toNat : Int))).drew
    generalize (w1.setCell ⟨w.heap.size, p, none⟩ (.int .u8 ((sf s p ^^^ x).toNat : Int))).drew = W at *
    have HE : Hid _ := turn_end s p x
    have hcv := conv_by W w.heap.size s.size cap _ BY2
    clear c0 f0 BY BB
    go_wp2
    go_ret
    exact ⟨⟨p, _, hp, hdn, by rw [← HE.out]; rfl⟩, BB2⟩

/-! ### Open of a body and sixteen bytes behind it -/
theorem cat_cut0 (a b : ByteArray) : (a ++ b).extract 0 a.size = a := by
  apply bytes_ext
  · rw [cut_size _ _ _ (by rw [ByteArray.size_append]; omega)]; omega
  · intro j hj
    rw [cut_size _ _ _ (by rw [ByteArray.size_append]; omega)] at hj
    rw [sf_cut _ _ _ _ (by rw [ByteArray.size_append]; omega) (by omega), Nat.zero_add, sf_append, if_pos (by omega)]
theorem cat_cut1 (a b : ByteArray) : (a ++ b).extract a.size (a.size + b.size) = b := by
  apply bytes_ext
  · rw [cut_size _ _ _ (by rw [ByteArray.size_append]; omega)]; omega
  · intro j hj
    rw [cut_size _ _ _ (by rw [ByteArray.size_append]; omega)] at hj
    rw [sf_cut _ _ _ _ (by rw [ByteArray.size_append]; omega) (by omega), sf_append, if_neg (by omega), Nat.add_sub_cancel_left]
theorem open_cat_no (key n m b x : ByteArray) (hk : KeyLen key.size) (hn : NonceLen n.size) (hm : m.size ≤ 200) (hb : b.size ≤ 200) (hx : x.size = 16) (hne : x ≠ str 16 (tagF key (firstF key n) m b)) (w : World) :
    Calls Try.prog 25 #[.string key, .string n, .string m, .string (b ++ x)] w fun e w' => e = .returned (.tuple #[.string ⟨#[]⟩, .int .i64 6]) ∧ Below w.heap.size w w' := by
  have hz : (b ++ x).size = b.size + 16 := by rw [ByteArray.size_append, hx]
  refine open_no key n m (b ++ x) (key_max hk) hk hn hm (by omega) (by omega) ?_ w
  rw [hz, Nat.add_sub_cancel, cat_cut0]
  have := cat_cut1 b x
  rw [hx] at this
  rw [this]
  exact fun e => hne e.symm
theorem enc_zero (key : ByteArray) (hk : KeyLen key.size) (w : World) :
    Calls Try.prog 17 #[.string key, .string (zs 16)] w fun e w' => e = .returned (.tuple #[.string (str 16 (hK key)), .int .i64 0]) ∧ Below w.heap.size w w' := by
  have h := enc_ok key (zs 16) (key_max hk) hk (zs_size 16) w
  have e : sf (zs 16) = fun _ => 0 := funext fun j => sf_zs 16 j
  rw [e] at h
  exact h
theorem zero_iff (key : ByteArray) : str 16 (hK key) = zs 16 ↔ ∀ j, j < 16 → hK key j = 0 := by
  constructor
  · intro e j hj
    have e2 := congrArg (fun s => sf s j) e
    rwa [sf_str _ _ _ hj, sf_zs] at e2
  · intro h
    exact str_congr h
theorem turn_ne (s : ByteArray) (p : Nat) (d : UInt8) (hp : p < s.size) (hd : d ≠ 0) : turnT s p d ≠ s := by
  intro e
  apply turnT_at s p d hp hd
  rw [e]
end Go.Proofs.Ytgalgjmhdbncbaa
