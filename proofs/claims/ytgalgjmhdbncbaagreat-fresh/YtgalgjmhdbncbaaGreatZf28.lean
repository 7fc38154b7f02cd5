import Derived.Test.YtgalgjmhdbncbaaGreatZf26
namespace Go.Proofs.YtgalgjmhdbncbaaGreat
open Go.RowKit
attribute [local go_sem ↓] Go.wp_at_zero Go.wp_at_succ
attribute [local go_sem ↓] bs_wrap

def goB (i : Nat) (b : UInt8) : Bool :=
  if i = 0 then ((b.toNat : Int) == 99) else if i = 1 then ((b.toNat : Int) == 103) else if i = 2 then ((b.toNat : Int) == 1) else if i = 3 then decide (1 ≤ (b.toNat : Int) ∧ (b.toNat : Int) ≤ 3)
  else if i = 18 then ((b.toNat : Int) == 0) else if i = 19 then decide ((b.toNat : Int) ≤ 200) else true
set_option maxRecDepth 100000 in
set_option maxHeartbeats 1000000 in
theorem goesOn_any (i : Nat) (hi : i < 20) (b : UInt8) (w : World) : Calls Tryz.prog 121 #[.int .i64 i, .int .u8 b.toNat] w fun e w' => e = .returned (.bool (goB i b)) ∧ w' = w := by
  have hb := b.toNat_lt
  rcases (by omega : i = 0 ∨ i = 1 ∨ i = 2 ∨ i = 3 ∨ i = 18 ∨ i = 19 ∨ (4 ≤ i ∧ i < 18)) with rfl | rfl | rfl | rfl | rfl | rfl | h
  · go_enter Tryz.func121, Tryz.ntmps121
    go_wp2
    go_ret
    exact ⟨rfl, rfl⟩
  · go_enter Tryz.func121, Tryz.ntmps121
    go_wp2
    go_ret
    exact ⟨rfl, rfl⟩
  · go_enter Tryz.func121, Tryz.ntmps121
    go_wp2
    go_ret
    exact ⟨rfl, rfl⟩
  · have HG : Hid ((decide (1 ≤ (b.toNat : Int)) && decide ((b.toNat : Int) ≤ 3)) = goB 3 b) := (Bool.decide_and _ _).symm
    go_enter Tryz.func121, Tryz.ntmps121
    go_wp2_with fail
    refine (isAlg_any _ _).mono ?_
    rintro e w1 ⟨rfl, hw⟩
    subst hw
    go_wp2
    go_ret
    exact ⟨by rw [← HG.out]; rfl, rfl⟩
  · go_enter Tryz.func121, Tryz.ntmps121
    go_wp2
    go_ret
    exact ⟨rfl, rfl⟩
  · go_enter Tryz.func121, Tryz.ntmps121
    go_wp2
    go_ret
    exact ⟨rfl, rfl⟩
  · have hg : goB i b = true := by
      unfold goB
      rw [if_neg (by omega), if_neg (by omega), if_neg (by omega), if_neg (by omega), if_neg (by omega), if_neg (by omega)]
    have h3 : ((i : Int) == 3) = false := by rw [beq_eq_false_iff_ne]; omega
    have h18 : ((i : Int) == 18) = false := by rw [beq_eq_false_iff_ne]; omega
    have h19 : ((i : Int) == 19) = false := by rw [beq_eq_false_iff_ne]; omega
    have h0 : ¬ ((i : Int) < 3) := by omega
    rw [hg]
    clear hg h hi
    go_enter Tryz.func121, Tryz.ntmps121
    go_wp2
    go_ret
    exact ⟨rfl, rfl⟩
theorem u8_eq (b : UInt8) (k : Nat) (hk : k < 256) : ((b.toNat : Int) == (k : Int)) = true ↔ b = UInt8.ofNat k := by
  rw [beq_iff_eq]
  constructor
  · intro h
    apply UInt8.toNat_inj.1
    rw [UInt8.toNat_ofNat']
    omega
  · intro h
    rw [h, UInt8.toNat_ofNat']
    omega
theorem go0 (b : UInt8) : goB 0 b = true ↔ b = 99 := u8_eq b 99 (by omega)
theorem go1 (b : UInt8) : goB 1 b = true ↔ b = 103 := u8_eq b 103 (by omega)
theorem go2 (b : UInt8) : goB 2 b = true ↔ b = 1 := u8_eq b 1 (by omega)
theorem go18 (b : UInt8) : goB 18 b = true ↔ b = 0 := u8_eq b 0 (by omega)
theorem go3 (b : UInt8) : goB 3 b = true ↔ 1 ≤ b.toNat ∧ b.toNat ≤ 3 := by
  show decide (1 ≤ (b.toNat : Int) ∧ (b.toNat : Int) ≤ 3) = true ↔ _
  rw [decide_eq_true_iff]
  omega
theorem go19 (b : UInt8) : goB 19 b = true ↔ b.toNat ≤ 200 := by
  show decide ((b.toNat : Int) ≤ 200) = true ↔ _
  rw [decide_eq_true_iff]
  omega
theorem goMid (i : Nat) (b : UInt8) (h : 4 ≤ i) (h2 : i ≠ 18) (h3 : i ≠ 19) : goB i b = true := by
  unfold goB
  rw [if_neg (by omega), if_neg (by omega), if_neg (by omega), if_neg (by omega), if_neg (by omega), if_neg (by omega)]
theorem bad_first (s : ByteArray) (k : Nat) (hk : k < s.size) (hk2 : k < 20) (hg : ∀ j, j < k → goB j (sf s j) = true) (hb : goB k (sf s k) = false) : badAt s = some k := by
  have ne : ∀ {p : Prop}, (goB k (sf s k) = true ↔ p) → ¬ p := fun e hp => by rw [e.2 hp] at hb; cases hb
  have hmid : k = 0 ∨ k = 1 ∨ k = 2 ∨ k = 3 ∨ k = 18 ∨ k = 19 := by
    rcases (by omega : k = 0 ∨ k = 1 ∨ k = 2 ∨ k = 3 ∨ k = 18 ∨ k = 19 ∨ (4 ≤ k ∧ k ≠ 18 ∧ k ≠ 19)) with h | h | h | h | h | h | ⟨h1, h2, h3⟩
    · exact .inl h
    · exact .inr (.inl h)
    · exact .inr (.inr (.inl h))
    · exact .inr (.inr (.inr (.inl h)))
    · exact .inr (.inr (.inr (.inr (.inl h))))
    · exact .inr (.inr (.inr (.inr (.inr h))))
    · rw [goMid k _ h1 h2 h3] at hb; cases hb
  unfold badAt
  rcases hmid with rfl | rfl | rfl | rfl | rfl | rfl
  · rw [if_pos (.inr (ne (go0 _)))]
  · have e0 := (go0 _).1 (hg 0 (by omega))
    rw [if_neg (by rintro (h | h); omega; exact h e0), if_pos (.inr (ne (go1 _)))]
  · have e0 := (go0 _).1 (hg 0 (by omega))
    have e1 := (go1 _).1 (hg 1 (by omega))
    rw [if_neg (by rintro (h | h); omega; exact h e0), if_neg (by rintro (h | h); omega; exact h e1), if_pos (.inr (ne (go2 _)))]
  · have e0 := (go0 _).1 (hg 0 (by omega))
    have e1 := (go1 _).1 (hg 1 (by omega))
    have e2 := (go2 _).1 (hg 2 (by omega))
    have e3 := ne (go3 _)
    rw [if_neg (by rintro (h | h); omega; exact h e0), if_neg (by rintro (h | h); omega; exact h e1), if_neg (by rintro (h | h); omega; exact h e2), if_pos (by omega)]
  · have e0 := (go0 _).1 (hg 0 (by omega))
    have e1 := (go1 _).1 (hg 1 (by omega))
    have e2 := (go2 _).1 (hg 2 (by omega))
    have e3 := (go3 _).1 (hg 3 (by omega))
    rw [if_neg (by rintro (h | h); omega; exact h e0), if_neg (by rintro (h | h); omega; exact h e1), if_neg (by rintro (h | h); omega; exact h e2), if_neg (by omega), if_pos ⟨hk, ne (go18 _)⟩]
  · have e0 := (go0 _).1 (hg 0 (by omega))
    have e1 := (go1 _).1 (hg 1 (by omega))
    have e2 := (go2 _).1 (hg 2 (by omega))
    have e3 := (go3 _).1 (hg 3 (by omega))
    have e18 := (go18 _).1 (hg 18 (by omega))
    have e19 := ne (go19 _)
    rw [if_neg (by rintro (h | h); omega; exact h e0), if_neg (by rintro (h | h); omega; exact h e1), if_neg (by rintro (h | h); omega; exact h e2), if_neg (by omega), if_neg (by rintro ⟨_, h⟩; exact h e18), if_neg (by omega), if_pos (by omega)]
theorem bad_short (s : ByteArray) (hs : s.size < 20) (hg : ∀ j, j < s.size → goB j (sf s j) = true) : badAt s = some s.size := by
  unfold badAt
  by_cases h0 : s.size = 0
  · rw [if_pos (.inl h0), h0]
  rw [if_neg (by rintro (h | h); exact h0 h; exact h ((go0 _).1 (hg 0 (by omega))))]
  by_cases h1 : s.size ≤ 1
  · rw [if_pos (.inl h1)]; congr 1; omega
  rw [if_neg (by rintro (h | h); exact h1 h; exact h ((go1 _).1 (hg 1 (by omega))))]
  by_cases h2 : s.size ≤ 2
  · rw [if_pos (.inl h2)]; congr 1; omega
  rw [if_neg (by rintro (h | h); exact h2 h; exact h ((go2 _).1 (hg 2 (by omega))))]
  by_cases h3 : s.size ≤ 3
  · rw [if_pos (.inl h3)]; congr 1; omega
  have e3 := (go3 _).1 (hg 3 (by omega))
  rw [if_neg (by omega), if_neg (by rintro ⟨h, h'⟩; exact h' ((go18 _).1 (hg 18 h))), if_pos hs]
theorem bad_long (s : ByteArray) (hs : 20 ≤ s.size) (hg : ∀ j, j < 20 → goB j (sf s j) = true) :
    badAt s = if s.size < 36 + (sf s 19).toNat then some s.size else if 36 + (sf s 19).toNat < s.size then some (36 + (sf s 19).toNat) else none := by
  have e0 := (go0 _).1 (hg 0 (by omega))
  have e1 := (go1 _).1 (hg 1 (by omega))
  have e2 := (go2 _).1 (hg 2 (by omega))
  have e3 := (go3 _).1 (hg 3 (by omega))
  have e18 := (go18 _).1 (hg 18 (by omega))
  have e19 := (go19 _).1 (hg 19 (by omega))
  unfold badAt
  rw [if_neg (by rintro (h | h); omega; exact h e0), if_neg (by rintro (h | h); omega; exact h e1), if_neg (by rintro (h | h); omega; exact h e2), if_neg (by omega), if_neg (by rintro ⟨_, h⟩; exact h e18), if_neg (by omega), if_neg (by omega)]
end Go.Proofs.YtgalgjmhdbncbaaGreat
namespace Go.Proofs.YtgalgjmhdbncbaaGreat
open Go.RowKit
attribute [local go_sem ↓] Go.wp_at_zero Go.wp_at_succ
attribute [local go_sem ↓] bs_wrap

theorem sfi (s : ByteArray) (k : Nat) (h : k < s.size) : s[k] = sf s k := by
  have h' : k < s.data.size := h
  show s.data[k] = s.data.getD k 0
  simp [Array.getElem?_eq_getElem h']
def faultV (s : ByteArray) : Value := match badAt s with
  | some p => .tuple #[.int .i64 p, .bool true]
  | none => .tuple #[.int .i64 s.size, .bool false]
set_option maxRecDepth 100000 in
set_option maxHeartbeats 2000000 in
theorem fault_any (s : ByteArray) (hs : s.size ≤ maxLen) (w : World) : Calls Tryz.prog 85 #[.string s] w fun e w' => e = .returned (faultV s) ∧ Below w.heap.size w w' := by
  replace hs : s.size ≤ 9223372036854775807 := hs
  obtain ⟨L, hL⟩ : ∃ L, min s.size 20 = L := ⟨_, rfl⟩
  have hmin : min (s.size : Int) 20 = (L : Int) := by omega
  go_enter Tryz.func85, Tryz.ntmps85
  go_wp2_with fail
  go_loop [4, 9] (fun _ i => ∃ k : Nat, k ≤ L ∧ i = .int .i64 k ∧ Hid (∀ j, j < k → goB j (sf s j) = true)) (fun _ i => L - (intOf i).toNat)
  case atStart => exact ⟨0, by omega, rfl, fun j hj => by omega⟩
  case round =>
    obtain ⟨k, hk, rfl, HG⟩ := hrel
    by_cases hlt : k < L
    · have hix := sfi s k (by omega)
      have hki : (k : Int) < (s.size : Int) := by omega
      go_wp2_with fail
      refine (goesOn_any k (by omega) (sf s k) _).mono ?_
      rintro e w1 ⟨rfl, hw⟩
      subst hw
      cases hg : goB k (sf s k)
      · have HB : Hid (badAt s = some k) := bad_first s k (by omega) (by omega) HG.out hg
        clear hg
        go_wp2
        go_ret2
        exact ⟨by unfold faultV; rw [HB.out]; rfl, Below.refl _ _⟩
      · have HG2 : Hid (∀ j, j < k + 1 → goB j (sf s j) = true) := fun j hj => by
          by_cases h : j = k
          · subst h; exact hg
          · exact HG.out j (by omega)
        clear hg
        go_wp2
        go_round
        case rel => exact ⟨k + 1, by omega, by go_num, HG2⟩
        case measure => simp [intOf]; omega
    · have hkL : k = L := by omega
      subst hkL
      by_cases h20 : s.size < 20
      · have HB : Hid (badAt s = some s.size) := bad_short s h20 (fun j hj => HG.out j (by omega))
        go_wp2
        go_ret2
        exact ⟨by unfold faultV; rw [HB.out]; rfl, Below.refl _ _⟩
      · have HB : Hid _ := bad_long s (by omega) (fun j hj => HG.out j (by omega))
        have e18 := (go18 _).1 (HG.out 18 (by omega))
        have hl19 := (sf s 19).toNat_lt
        obtain ⟨cap, o, hcap, hrun, hBy⟩ := bs_run (s.extract 18 20) w
        replace hrun : Sem.run Tryz.prog (Bs (.string (s.extract 18 20))) w = _ := hrun
        have hz := cut_size s 18 20 (by omega)
        rw [hz] at hrun hBy hcap
        have hv : valF (sf (s.extract 18 20)) 0 2 = (sf s 19).toNat := by
          simp only [valF]
          rw [sf_cut s 18 20 (0 + 0) (by omega) (by omega), sf_cut s 18 20 (0 + 1) (by omega) (by omega)]
          show (0 * 256 + (sf s 18).toNat) * 256 + (sf s 19).toNat = _
          rw [e18]
          have : (0 : UInt8).toNat = 0 := rfl
          omega
        have hN := fun W hr => nof_cells w.heap.size 0 2 cap (sf (s.extract 18 20)) (by omega) (by omega) W hr
        rw [hv] at hN
        have HN : Hid _ := hN
        have HB2 : Hid _ := hBy
        clear hN hBy hv e18 HG
        go_wp2_with fail
        refine (HN.out _ (fun j hj => by rw [Nat.zero_add]; exact (HB2.out.2 j hj).1)).mono ?_
        rintro e w2 ⟨rfl, hw⟩
        have B2 : Below w.heap.size w w2 := by rw [hw]; exact ((Below.refl _ w).alloc (Nat.le_refl _) o).drew
        clear hw hrun HN HB2
        generalize hV : (sf s 19).toNat = V at *
        go_wp2_with fail
        refine (length_any V (by omega) _).mono ?_
        rintro e w3 ⟨rfl, hw⟩
        subst hw
        rcases (by omega : s.size < 36 + V ∨ 36 + V < s.size ∨ s.size = 36 + V) with h | h | h
        · have HB3 : Hid (badAt s = some s.size) := by show _ = _; rw [HB.out, if_pos h]
          have hm : min (s.size : Int) (36 + (V : Int)) = (s.size : Int) := by omega
          have hne : ((s.size : Int) != 36 + (V : Int)) = true := by rw [bne_iff_ne]; omega
          go_wp2
          go_ret2
          exact ⟨by unfold faultV; rw [HB3.out]; rfl, B2⟩
        · have HB3 : Hid (badAt s = some (36 + V)) := by show _ = _; rw [HB.out, if_neg (by omega), if_pos h]
          have hm : min (s.size : Int) (36 + (V : Int)) = ((36 + V : Nat) : Int) := by omega
          have hne : ((s.size : Int) != 36 + (V : Int)) = true := by rw [bne_iff_ne]; omega
          go_wp2
          go_ret2
          exact ⟨by unfold faultV; rw [HB3.out]; rfl, B2⟩
        · have HB3 : Hid (badAt s = none) := by show _ = _; rw [HB.out, if_neg (by omega), if_neg (by omega)]
          have hm : min (s.size : Int) (36 + (V : Int)) = (s.size : Int) := by omega
          have hne : ((s.size : Int) != 36 + (V : Int)) = false := by rw [bne_eq_false_iff_eq]; omega
          clear h
          go_wp2
          go_ret2
          exact ⟨by unfold faultV; rw [HB3.out]; rfl, B2⟩
end Go.Proofs.YtgalgjmhdbncbaaGreat
