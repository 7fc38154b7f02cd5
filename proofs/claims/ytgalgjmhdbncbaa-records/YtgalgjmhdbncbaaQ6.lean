import Derived.Test.YtgalgjmhdbncbaaQ5
namespace Go.Proofs.Ytgalgjmhdbncbaa
open Go.RowKit
attribute [local go_sem ↓] Go.wp_at_zero Go.wp_at_succ
attribute [local go_sem ↓] bs_wrap

theorem sfi (s : ByteArray) (k : Nat) (h : k < s.size) : s[k] = sf s k := by
  have h' : k < s.data.size := h
  show s.data[k] = s.data.getD k 0
  simp [Array.getElem?_eq_getElem h']
/-- what fault tells -/
def faultV (s : ByteArray) : Value := match badAt s with
  | some p => .tuple #[.int .i64 p, .bool true]
  | none => .tuple #[.int .i64 s.size, .bool false]
set_option maxRecDepth 100000 in
set_option maxHeartbeats 2000000 in
theorem fault_any (s : ByteArray) (hs : s.size ≤ maxLen) (w : World) : Calls Try.prog 73 #[.string s] w fun e w' => e = .returned (faultV s) ∧ Below w.heap.size w w' := by
  replace hs : s.size ≤ 9223372036854775807 := hs
  obtain ⟨L, hL⟩ : ∃ L, min s.size 20 = L := ⟨_, rfl⟩
  have hmin : min (s.size : Int) 20 = (L : Int) := by omega
  go_enter Try.func73, Try.ntmps73
  go_wp2_with fail
  go_loop [4, 9] (fun _ i => ∃ k : Nat, k ≤ L ∧ i = .int .i64 k ∧ Hid (∀ j, j < k → goB j (sf s j) = true)) (fun _ i => L - (intOf i).toNat)
  case atStart => exact ⟨0, by omega, rfl, fun j hj => by omega⟩
  case round =>
    obtain ⟨k, hk, rfl, HG⟩ := hrel
    by_cases hlt : k < L
    · have hix := sfi s k (by omega)
      have hki : (k : Int) < (s.size : Int) := by omega
      go_wp2_with fail
      refine (goesOn_any k (by omega) (sf s k) _).mono ?_
      rintro e w1 ⟨rfl, hw⟩
      subst hw
      cases hg : goB k (sf s k)
      · have HB : Hid (badAt s = some k) := bad_first s k (by omega) (by omega) HG.out hg
        clear hg
        go_wp2
        go_ret2
        exact ⟨by unfold faultV; rw [HB.out]; rfl, Below.refl _ _⟩
      · have HG2 : Hid (∀ j, j < k + 1 → goB j (sf s j) = true) := fun j hj => by
          by_cases h : j = k
          · subst h; exact hg
          · exact HG.out j (by omega)
        clear hg
        go_wp2
        go_round
        case rel => exact ⟨k + 1, by omega, by go_num, HG2⟩
        case measure => simp [intOf]; omega
    · have hkL : k = L := by omega
      subst hkL
      by_cases h20 : s.size < 20
      · have HB : Hid (badAt s = some s.size) := bad_short s h20 (fun j hj => HG.out j (by omega))
        go_wp2
        go_ret2
        exact ⟨by unfold faultV; rw [HB.out]; rfl, Below.refl _ _⟩
      · have HB : Hid _ := bad_long s (by omega) (fun j hj => HG.out j (by omega))
        have e18 := (go18 _).1 (HG.out 18 (by omega))
        have hl19 := (sf s 19).toNat_lt
        obtain ⟨cap, o, hcap, hrun, hBy⟩ := bs_run (s.extract 18 20) w
        replace hrun : Sem.run Try.prog (Bs (.string (s.extract 18 20))) w = _ := hrun
        have hz := cut_size s 18 20 (by omega)
        rw [hz] at hrun hBy hcap
        have hv : valF (sf (s.extract 18 20)) 0 2 = (sf s 19).toNat := by
          simp only [valF]
          rw [sf_cut s 18 20 (0 + 0) (by omega) (by omega), sf_cut s 18 20 (0 + 1) (by omega) (by omega)]
          show (0 * 256 + (sf s 18).toNat) * 256 + (sf s 19).toNat = _
          rw [e18]
          have : (0 : UInt8).toNat = 0 := rfl
          omega
        have hN := fun W hr => nof_cells w.heap.size 0 2 cap (sf (s.extract 18 20)) (by omega) (by omega) W hr
        rw [hv] at hN
        have HN : Hid _ := hN
        have HB2 : Hid _ := hBy
        clear hN hBy hv e18 HG
        go_wp2_with fail
        refine (HN.out _ (fun j hj => by rw [Nat.zero_add]; exact (HB2.out.2 j hj).1)).mono ?_
        rintro e w2 ⟨rfl, hw⟩
        have B2 : Below w.heap.size w w2 := by rw [hw]; exact ((Below.refl _ w).alloc (Nat.le_refl _) o).drew
        clear hw hrun HN HB2
        generalize hV : (sf s 19).toNat = V at *
        go_wp2_with fail
        refine (length_any V (by omega) _).mono ?_
        rintro e w3 ⟨rfl, hw⟩
        subst hw
        rcases (by omega : s.size < 36 + V ∨ 36 + V < s.size ∨ s.size = 36 + V) with h | h | h
        · have HB3 : Hid (badAt s = some s.size) := by show _ = _; rw [HB.out, if_pos h]
          have hm : min (s.size : Int) (36 + (V : Int)) = (s.size : Int) := by omega
          have hne : ((s.size : Int) != 36 + (V : Int)) = true := by rw [bne_iff_ne]; omega
          go_wp2
          go_ret2
          exact ⟨by unfold faultV; rw [HB3.out]; rfl, B2⟩
        · have HB3 : Hid (badAt s = some (36 + V)) := by show _ = _; rw [HB.out, if_neg (by omega), if_pos h]
          have hm : min (s.size : Int) (36 + (V : Int)) = ((36 + V : Nat) : Int) := by omega
          have hne : ((s.size : Int) != 36 + (V : Int)) = true := by rw [bne_iff_ne]; omega
          go_wp2
          go_ret2
          exact ⟨by unfold faultV; rw [HB3.out]; rfl, B2⟩
        · have HB3 : Hid (badAt s = none) := by show _ = _; rw [HB.out, if_neg (by omega), if_neg (by omega)]
          have hm : min (s.size : Int) (36 + (V : Int)) = (s.size : Int) := by omega
          have hne : ((s.size : Int) != 36 + (V : Int)) = false := by rw [bne_eq_false_iff_eq]; omega
          clear h
          go_wp2
          go_ret2
          exact ⟨by unfold faultV; rw [HB3.out]; rfl, B2⟩
end Go.Proofs.Ytgalgjmhdbncbaa
