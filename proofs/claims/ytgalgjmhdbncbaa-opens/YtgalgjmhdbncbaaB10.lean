import Derived.Test.YtgalgjmhdbncbaaB9
namespace Go.Proofs.Ytgalgjmhdbncbaa
open Go.RowKit
attribute [local go_sem ↓] Go.wp_at_zero Go.wp_at_succ
attribute [local go_sem ↓] cv_wrap bs_wrap
attribute [local go_sem] run_cv cvRes_row cvRes_z blk_new blk_at blk_old blk_drew

theorem wrap_r : ∀ d : Fin 256, IntKind.u8.wrap (d.val : Int) = ((UInt8.ofNat d.val).toNat : Int) := by decide +kernel
set_option maxRecDepth 100000 in
set_option maxHeartbeats 4000000 in
theorem opens_law (key n m p sealed : ByteArray) (at' with' : Int) (h1 : -9223372036854775808 ≤ at') (h2 : at' ≤ 9223372036854775807) (h3 : -9223372036854775808 ≤ with') (h4 : with' ≤ 9223372036854775807)
    (hs : key.size ≤ maxLen) (hn : n.size ≤ maxLen) (hm : m.size ≤ maxLen) (hp : p.size ≤ maxLen) (hd : sealed.size ≤ maxLen) (w : World) :
    Calls Try.prog 7 #[.string key, .string n, .string m, .string p, .int .i64 at', .int .i64 with', .string sealed] w fun e w' => e = .returned (.bool true) ∧ Below w.heap.size w w' := by
  have hm16 : ∀ w, (Instr.makeSlice 31 (.int .i64 16) (.int .i64 16)).run Try.prog w = .ok (.slice (some ⟨w.heap.size, 0, none⟩) 16 16) (w.alloc (.cells (arr 16 z8) 5)) := fun w => mk8 16 (by omega) w
  have hc12 := zs_cut 16 12 (by omega)
  have hz := zs_size 16
  obtain ⟨v, c, hv, cS⟩ := rseal_cases key n m p hn hm hp
  have CS : Hid _ := cS
  have hO := fun (x : ByteArray) (hx : x.size ≤ maxLen) w => lopens_any key n m x hs hn hm hx w
  have HO : Hid _ := hO
  have HD : Hid _ := hd
  clear cS hO hd hs hn hm hp
  go_enter Try.func7, Try.ntmps7
  go_wp2_with fail
  refine (HO.out sealed HD.out _).mono ?_
  rintro e w1 ⟨rfl, b1⟩
  go_wp2_with fail
  refine (CS.out _).mono ?_
  rintro e w2 ⟨rfl, b2⟩
  have B2 := b1.trans (b2.mono b1.size)
  have z2 := B2.size
  clear b1 b2 CS HD
  rcases hv with ⟨rfl, hv1, hv2⟩ | hc
  · have hvm : v.size ≤ maxLen := by unfold maxLen; omega
    have HV : Hid _ := hvm
    clear hvm hm16 hc12 hz
    go_wp2_with fail
    refine (HO.out v HV.out _).mono ?_
    rintro e w3 ⟨rfl, b3⟩
    have B3 := B2.trans (b3.mono z2)
    clear B2 b3 z2
    have z3 := B3.size
    obtain ⟨cap, o, hcap, hrun, hBy⟩ := bs_run v w3
    replace hrun : Sem.run Try.prog (Bs (.string v)) w3 = _ := hrun
    go_wp2_with fail
    refine (lpick_any at' v.size h1 h2 (by omega) (by omega) _).mono ?_
    rintro e w4 ⟨⟨q, hq, rfl⟩, hw⟩
    have BY : By w4 w3.heap.size v.size (sf v) := by rw [hw]; exact hBy
    have B4 : Below w.heap.size w w4 := by rw [hw]; exact (B3.alloc z3 o).drew
    clear hw hrun hBy B3
    have c0 := (BY.2 q hq).1
    have f0 := (BY.2 q hq).2
    have hqi : (q : Int) < (v.size : Int) := by omega
    go_wp2_with fail
    go_region_with (first
      | (go_at_call 26; refine (lpick_any with' 256 h3 h4 (by omega) (by omega) _).mono ?_; rintro e w5 ⟨⟨d, hd, rfl⟩, hw⟩; subst hw))
    all_goals
      have hw1 := wrap_r ⟨d, hd⟩
      simp only at hw1
      rw [hw1]
      clear hw1
      generalize UInt8.ofNat d = x at *
      rw [u8_xor_b]
      have BY2 := (BY.set hq (sf v q ^^^ x)).drew
      have B5 := (B4.setCell (p := ⟨w3.heap.size, q, none⟩) z3 (.int .u8 ((sf v q ^^^ x).toNat : Int))).drew
      generalize (w4.setCell ⟨w3.heap.size, q, none⟩ (.int .u8 ((sf v q ^^^ x).toNat : Int))).drew = W at *
      have hcv : Sem.run Try.prog (Cv8 (.slice (some ⟨w3.heap.size, 0, none⟩) v.size cap)) W = _ := conv_by W w3.heap.size v.size cap _ BY2
      have zs1 := str_size v.size (fun j => if j = q then sf v q ^^^ x else sf v j)
      generalize str v.size (fun j => if j = q then sf v q ^^^ x else sf v j) = T at *
      have HT : Hid (T.size ≤ maxLen) := by show _ ≤ _; rw [zs1]; exact HV.out
      clear BY BY2 c0 f0 B4
      have z5 := B5.size
      have e1 := cut_size v 1 v.size (Nat.le_refl _)
      go_wp2_with fail
      refine (HO.out T HT.out _).mono ?_
      rintro e w6 ⟨rfl, b6⟩
      have B6 := B5.trans (b6.mono z5)
      have z6 := B6.size
      clear B5 b6
      go_wp2_with fail
      refine (HO.out _ (by rw [cut_size _ _ _ (Nat.le_refl _)]; exact Nat.le_trans (Nat.sub_le _ _) HV.out) _).mono ?_
      rintro e w7 ⟨rfl, b7⟩
      go_wp2
      go_ret
      exact ⟨rfl, B6.trans (b7.mono z6)⟩
  · clear HO
    go_wp2_with fail
    refine (lopens_any (zs 16) (zs 12) ⟨#[]⟩ _ (by rw [zs_size]; decide) (by rw [zs_size]; decide) (by decide) (by decide) _).mono ?_
    rintro e w3 ⟨rfl, b3⟩
    have B3 := (B2.alloc z2 (.cells (arr 16 z8) 5)).trans (b3.mono (by simp; omega))
    have z3 := B3.size
    clear B2 b3 z2 hm16
    go_wp2_with fail
    go_region_with (first
      | (go_at_call 25; refine (known_open_no _ rfl (by decide +kernel) _).mono ?_; rintro e w4 ⟨rfl, b4⟩; have B4 := B3.drew.trans (b4.mono z3)))
    all_goals
      go_wp2
      go_ret
      exact ⟨rfl, B4⟩
end Go.Proofs.Ytgalgjmhdbncbaa
