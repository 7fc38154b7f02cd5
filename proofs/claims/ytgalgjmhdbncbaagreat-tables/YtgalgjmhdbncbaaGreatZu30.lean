import Derived.Test.YtgalgjmhdbncbaaGreatZu22
import Derived.Test.YtgalgjmhdbncbaaGreatZu00
import Derived.Deep.RegionHeld
namespace Go.Proofs.YtgalgjmhdbncbaaGreat
open Go.RowKit
attribute [local go_sem ↓] Go.wp_at_zero Go.wp_at_succ
attribute [local go_sem ↓] bs_wrap

def goB (i : Nat) (b : UInt8) : Bool :=
  if i = 0 then ((b.toNat : Int) == 99) else if i = 1 then ((b.toNat : Int) == 103) else if i = 2 then ((b.toNat : Int) == 1) else if i = 3 then decide (1 ≤ (b.toNat : Int) ∧ (b.toNat : Int) ≤ 3)
  else if i = 18 then ((b.toNat : Int) == 0) else if i = 19 then decide ((b.toNat : Int) ≤ 200) else true
set_option maxRecDepth 100000 in
set_option maxHeartbeats 1000000 in
theorem goesOn_any (i : Nat) (hi : i < 20) (b : UInt8) (w : World) : Calls Tryz.prog 121 #[.int .i64 i, .int .u8 b.toNat] w fun e w' => e = .returned (.bool (goB i b)) ∧ w' = w := by
  have hb := b.toNat_lt
  rcases (by omega : i = 0 ∨ i = 1 ∨ i = 2 ∨ i = 3 ∨ i = 18 ∨ i = 19 ∨ (4 ≤ i ∧ i < 18)) with rfl | rfl | rfl | rfl | rfl | rfl | h
  · go_enter Tryz.func121, Tryz.ntmps121
    go_wp2
    go_ret
    exact ⟨rfl, rfl⟩
  · go_enter Tryz.func121, Tryz.ntmps121
    go_wp2
    go_ret
    exact ⟨rfl, rfl⟩
  · go_enter Tryz.func121, Tryz.ntmps121
    go_wp2
    go_ret
    exact ⟨rfl, rfl⟩
  · have HG : Hid ((decide (1 ≤ (b.toNat : Int)) && decide ((b.toNat : Int) ≤ 3)) = goB 3 b) := (Bool.decide_and _ _).symm
    go_enter Tryz.func121, Tryz.ntmps121
    go_wp2_with fail
    refine (isAlg_any _ _).mono ?_
    rintro e w1 ⟨rfl, hw⟩
    subst hw
    go_wp2
    go_ret
    exact ⟨by rw [← HG.out]; rfl, rfl⟩
  · go_enter Tryz.func121, Tryz.ntmps121
    go_wp2
    go_ret
    exact ⟨rfl, rfl⟩
  · go_enter Tryz.func121, Tryz.ntmps121
    go_wp2
    go_ret
    exact ⟨rfl, rfl⟩
  · have hg : goB i b = true := by
      unfold goB
      rw [if_neg (by omega), if_neg (by omega), if_neg (by omega), if_neg (by omega), if_neg (by omega), if_neg (by omega)]
    have h3 : ((i : Int) == 3) = false := by rw [beq_eq_false_iff_ne]; omega
    have h18 : ((i : Int) == 18) = false := by rw [beq_eq_false_iff_ne]; omega
    have h19 : ((i : Int) == 19) = false := by rw [beq_eq_false_iff_ne]; omega
    have h0 : ¬ ((i : Int) < 3) := by omega
    rw [hg]
    clear hg h hi
    go_enter Tryz.func121, Tryz.ntmps121
    go_wp2
    go_ret
    exact ⟨rfl, rfl⟩
theorem u8_eq (b : UInt8) (k : Nat) (hk : k < 256) : ((b.toNat : Int) == (k : Int)) = true ↔ b = UInt8.ofNat k := by
  rw [beq_iff_eq]
  constructor
  · intro h
    apply UInt8.toNat_inj.1
    rw [UInt8.toNat_ofNat']
    omega
  · intro h
    rw [h, UInt8.toNat_ofNat']
    omega
theorem go0 (b : UInt8) : goB 0 b = true ↔ b = 99 := u8_eq b 99 (by omega)
theorem go1 (b : UInt8) : goB 1 b = true ↔ b = 103 := u8_eq b 103 (by omega)
theorem go2 (b : UInt8) : goB 2 b = true ↔ b = 1 := u8_eq b 1 (by omega)
theorem go18 (b : UInt8) : goB 18 b = true ↔ b = 0 := u8_eq b 0 (by omega)
theorem go3 (b : UInt8) : goB 3 b = true ↔ 1 ≤ b.toNat ∧ b.toNat ≤ 3 := by
  show decide (1 ≤ (b.toNat : Int) ∧ (b.toNat : Int) ≤ 3) = true ↔ _
  rw [decide_eq_true_iff]
  omega
theorem go19 (b : UInt8) : goB 19 b = true ↔ b.toNat ≤ 200 := by
  show decide ((b.toNat : Int) ≤ 200) = true ↔ _
  rw [decide_eq_true_iff]
  omega
theorem goMid (i : Nat) (b : UInt8) (h : 4 ≤ i) (h2 : i ≠ 18) (h3 : i ≠ 19) : goB i b = true := by
  unfold goB
  rw [if_neg (by omega), if_neg (by omega), if_neg (by omega), if_neg (by omega), if_neg (by omega), if_neg (by omega)]
theorem bad_first (s : ByteArray) (k : Nat) (hk : k < s.size) (hk2 : k < 20) (hg : ∀ j, j < k → goB j (sf s j) = true) (hb : goB k (sf s k) = false) : badAt s = some k := by
  have ne : ∀ {p : Prop}, (goB k (sf s k) = true ↔ p) → ¬ p := fun e hp => by rw [e.2 hp] at hb; cases hb
  have hmid : k = 0 ∨ k = 1 ∨ k = 2 ∨ k = 3 ∨ k = 18 ∨ k = 19 := by
    rcases (by omega : k = 0 ∨ k = 1 ∨ k = 2 ∨ k = 3 ∨ k = 18 ∨ k = 19 ∨ (4 ≤ k ∧ k ≠ 18 ∧ k ≠ 19)) with h | h | h | h | h | h | ⟨h1, h2, h3⟩
    · exact .inl h
    · exact .inr (.inl h)
    · exact .inr (.inr (.inl h))
    · exact .inr (.inr (.inr (.inl h)))
    · exact .inr (.inr (.inr (.inr (.inl h))))
    · exact .inr (.inr (.inr (.inr (.inr h))))
    · rw [goMid k _ h1 h2 h3] at hb; cases hb
  unfold badAt
  rcases hmid with rfl | rfl | rfl | rfl | rfl | rfl
  · rw [if_pos (.inr (ne (go0 _)))]
  · have e0 := (go0 _).1 (hg 0 (by omega))
    rw [if_neg (by rintro (h | h); omega; exact h e0), if_pos (.inr (ne (go1 _)))]
  · have e0 := (go0 _).1 (hg 0 (by omega))
    have e1 := (go1 _).1 (hg 1 (by omega))
    rw [if_neg (by rintro (h | h); omega; exact h e0), if_neg (by rintro (h | h); omega; exact h e1), if_pos (.inr (ne (go2 _)))]
  · have e0 := (go0 _).1 (hg 0 (by omega))
    have e1 := (go1 _).1 (hg 1 (by omega))
    have e2 := (go2 _).1 (hg 2 (by omega))
    have e3 := ne (go3 _)
    rw [if_neg (by rintro (h | h); omega; exact h e0), if_neg (by rintro (h | h); omega; exact h e1), if_neg (by rintro (h | h); omega; exact h e2), if_pos (by omega)]
  · have e0 := (go0 _).1 (hg 0 (by omega))
    have e1 := (go1 _).1 (hg 1 (by omega))
    have e2 := (go2 _).1 (hg 2 (by omega))
    have e3 := (go3 _).1 (hg 3 (by omega))
    rw [if_neg (by rintro (h | h); omega; exact h e0), if_neg (by rintro (h | h); omega; exact h e1), if_neg (by rintro (h | h); omega; exact h e2), if_neg (by omega), if_pos ⟨hk, ne (go18 _)⟩]
  · have e0 := (go0 _).1 (hg 0 (by omega))
    have e1 := (go1 _).1 (hg 1 (by omega))
    have e2 := (go2 _).1 (hg 2 (by omega))
    have e3 := (go3 _).1 (hg 3 (by omega))
    have e18 := (go18 _).1 (hg 18 (by omega))
    have e19 := ne (go19 _)
    rw [if_neg (by rintro (h | h); omega; exact h e0), if_neg (by rintro (h | h); omega; exact h e1), if_neg (by rintro (h | h); omega; exact h e2), if_neg (by omega), if_neg (by rintro ⟨_, h⟩; exact h e18), if_neg (by omega), if_pos (by omega)]
theorem bad_short (s : ByteArray) (hs : s.size < 20) (hg : ∀ j, j < s.size → goB j (sf s j) = true) : badAt s = some s.size := by
  unfold badAt
  by_cases h0 : s.size = 0
  · rw [if_pos (.inl h0), h0]
  rw [if_neg (by rintro (h | h); exact h0 h; exact h ((go0 _).1 (hg 0 (by omega))))]
  by_cases h1 : s.size ≤ 1
  · rw [if_pos (.inl h1)]; congr 1; omega
  rw [if_neg (by rintro (h | h); exact h1 h; exact h ((go1 _).1 (hg 1 (by omega))))]
  by_cases h2 : s.size ≤ 2
  · rw [if_pos (.inl h2)]; congr 1; omega
  rw [if_neg (by rintro (h | h); exact h2 h; exact h ((go2 _).1 (hg 2 (by omega))))]
  by_cases h3 : s.size ≤ 3
  · rw [if_pos (.inl h3)]; congr 1; omega
  have e3 := (go3 _).1 (hg 3 (by omega))
  rw [if_neg (by omega), if_neg (by rintro ⟨h, h'⟩; exact h' ((go18 _).1 (hg 18 h))), if_pos hs]
theorem bad_long (s : ByteArray) (hs : 20 ≤ s.size) (hg : ∀ j, j < 20 → goB j (sf s j) = true) :
    badAt s = if s.size < 36 + (sf s 19).toNat then some s.size else if 36 + (sf s 19).toNat < s.size then some (36 + (sf s 19).toNat) else none := by
  have e0 := (go0 _).1 (hg 0 (by omega))
  have e1 := (go1 _).1 (hg 1 (by omega))
  have e2 := (go2 _).1 (hg 2 (by omega))
  have e3 := (go3 _).1 (hg 3 (by omega))
  have e18 := (go18 _).1 (hg 18 (by omega))
  have e19 := (go19 _).1 (hg 19 (by omega))
  unfold badAt
  rw [if_neg (by rintro (h | h); omega; exact h e0), if_neg (by rintro (h | h); omega; exact h e1), if_neg (by rintro (h | h); omega; exact h e2), if_neg (by omega), if_neg (by rintro ⟨_, h⟩; exact h e18), if_neg (by omega), if_neg (by omega)]
end Go.Proofs.YtgalgjmhdbncbaaGreat
namespace Go.Proofs.YtgalgjmhdbncbaaGreat
open Go.RowKit
attribute [local go_sem ↓] Go.wp_at_zero Go.wp_at_succ
attribute [local go_sem ↓] bs_wrap

theorem sfi (s : ByteArray) (k : Nat) (h : k < s.size) : s[k] = sf s k := by
  have h' : k < s.data.size := h
  show s.data[k] = s.data.getD k 0
  simp [Array.getElem?_eq_getElem h']
def faultV (s : ByteArray) : Value := match badAt s with
  | some p => .tuple #[.int .i64 p, .bool true]
  | none => .tuple #[.int .i64 s.size, .bool false]
set_option maxRecDepth 100000 in
set_option maxHeartbeats 2000000 in
theorem fault_any (s : ByteArray) (hs : s.size ≤ maxLen) (w : World) : Calls Tryz.prog 85 #[.string s] w fun e w' => e = .returned (faultV s) ∧ Below w.heap.size w w' := by
  replace hs : s.size ≤ 9223372036854775807 := hs
  obtain ⟨L, hL⟩ : ∃ L, min s.size 20 = L := ⟨_, rfl⟩
  have hmin : min (s.size : Int) 20 = (L : Int) := by omega
  go_enter Tryz.func85, Tryz.ntmps85
  go_wp2_with fail
  go_loop [4, 9] (fun _ i => ∃ k : Nat, k ≤ L ∧ i = .int .i64 k ∧ Hid (∀ j, j < k → goB j (sf s j) = true)) (fun _ i => L - (intOf i).toNat)
  case atStart => exact ⟨0, by omega, rfl, fun j hj => by omega⟩
  case round =>
    obtain ⟨k, hk, rfl, HG⟩ := hrel
    by_cases hlt : k < L
    · have hix := sfi s k (by omega)
      have hki : (k : Int) < (s.size : Int) := by omega
      go_wp2_with fail
      refine (goesOn_any k (by omega) (sf s k) _).mono ?_
      rintro e w1 ⟨rfl, hw⟩
      subst hw
      cases hg : goB k (sf s k)
      · have HB : Hid (badAt s = some k) := bad_first s k (by omega) (by omega) HG.out hg
        clear hg
        go_wp2
        go_ret2
        exact ⟨by unfold faultV; rw [HB.out]; rfl, Below.refl _ _⟩
      · have HG2 : Hid (∀ j, j < k + 1 → goB j (sf s j) = true) := fun j hj => by
          by_cases h : j = k
          · subst h; exact hg
          · exact HG.out j (by omega)
        clear hg
        go_wp2
        go_round
        case rel => exact ⟨k + 1, by omega, by go_num, HG2⟩
        case measure => simp [intOf]; omega
    · have hkL : k = L := by omega
      subst hkL
      by_cases h20 : s.size < 20
      · have HB : Hid (badAt s = some s.size) := bad_short s h20 (fun j hj => HG.out j (by omega))
        go_wp2
        go_ret2
        exact ⟨by unfold faultV; rw [HB.out]; rfl, Below.refl _ _⟩
      · have HB : Hid _ := bad_long s (by omega) (fun j hj => HG.out j (by omega))
        have e18 := (go18 _).1 (HG.out 18 (by omega))
        have hl19 := (sf s 19).toNat_lt
        obtain ⟨cap, o, hcap, hrun, hBy⟩ := bs_run (s.extract 18 20) w
        replace hrun : Sem.run Tryz.prog (Bs (.string (s.extract 18 20))) w = _ := hrun
        have hz := cut_size s 18 20 (by omega)
        rw [hz] at hrun hBy hcap
        have hv : valF (sf (s.extract 18 20)) 0 2 = (sf s 19).toNat := by
          simp only [valF]
          rw [sf_cut s 18 20 (0 + 0) (by omega) (by omega), sf_cut s 18 20 (0 + 1) (by omega) (by omega)]
          show (0 * 256 + (sf s 18).toNat) * 256 + (sf s 19).toNat = _
          rw [e18]
          have : (0 : UInt8).toNat = 0 := rfl
          omega
        have hN := fun W hr => nof_cells w.heap.size 0 2 cap (sf (s.extract 18 20)) (by omega) (by omega) W hr
        rw [hv] at hN
        have HN : Hid _ := hN
        have HB2 : Hid _ := hBy
        clear hN hBy hv e18 HG
        go_wp2_with fail
        refine (HN.out _ (fun j hj => by rw [Nat.zero_add]; exact (HB2.out.2 j hj).1)).mono ?_
        rintro e w2 ⟨rfl, hw⟩
        have B2 : Below w.heap.size w w2 := by rw [hw]; exact ((Below.refl _ w).alloc (Nat.le_refl _) o).drew
        clear hw hrun HN HB2
        generalize hV : (sf s 19).toNat = V at *
        go_wp2_with fail
        refine (length_any V (by omega) _).mono ?_
        rintro e w3 ⟨rfl, hw⟩
        subst hw
        rcases (by omega : s.size < 36 + V ∨ 36 + V < s.size ∨ s.size = 36 + V) with h | h | h
        · have HB3 : Hid (badAt s = some s.size) := by show _ = _; rw [HB.out, if_pos h]
          have hm : min (s.size : Int) (36 + (V : Int)) = (s.size : Int) := by omega
          have hne : ((s.size : Int) != 36 + (V : Int)) = true := by rw [bne_iff_ne]; omega
          go_wp2
          go_ret2
          exact ⟨by unfold faultV; rw [HB3.out]; rfl, B2⟩
        · have HB3 : Hid (badAt s = some (36 + V)) := by show _ = _; rw [HB.out, if_neg (by omega), if_pos h]
          have hm : min (s.size : Int) (36 + (V : Int)) = ((36 + V : Nat) : Int) := by omega
          have hne : ((s.size : Int) != 36 + (V : Int)) = true := by rw [bne_iff_ne]; omega
          go_wp2
          go_ret2
          exact ⟨by unfold faultV; rw [HB3.out]; rfl, B2⟩
        · have HB3 : Hid (badAt s = none) := by show _ = _; rw [HB.out, if_neg (by omega), if_neg (by omega)]
          have hm : min (s.size : Int) (36 + (V : Int)) = (s.size : Int) := by omega
          have hne : ((s.size : Int) != 36 + (V : Int)) = false := by rw [bne_eq_false_iff_eq]; omega
          clear h
          go_wp2
          go_ret2
          exact ⟨by unfold faultV; rw [HB3.out]; rfl, B2⟩
end Go.Proofs.YtgalgjmhdbncbaaGreat
namespace Go.Proofs.YtgalgjmhdbncbaaGreat
open Go.RowKit
attribute [local go_sem ↓] Go.wp_at_zero Go.wp_at_succ
attribute [local go_sem ↓] bs_wrap cv_wrap

def zrec : Array Value := #[.int .i64 0, .int .i64 0, .string ⟨#[]⟩, .string ⟨#[]⟩, .string ⟨#[]⟩]
theorem zero_cells {w : World} {g : Nat} (h : w.heap[g]? = some (.cells zrec 52 (0, 0))) : w.cell? ⟨g, 0, none⟩ = some (.int .i64 0) ∧ w.cell? ⟨g, 1, none⟩ = some (.int .i64 0) ∧ w.cell? ⟨g, 2, none⟩ = some (.string ⟨#[]⟩) ∧ w.cell? ⟨g, 3, none⟩ = some (.string ⟨#[]⟩) ∧ w.cell? ⟨g, 4, none⟩ = some (.string ⟨#[]⟩) := by
  refine ⟨?_, ?_, ?_, ?_, ?_⟩
  · rw [cell_of_row _ _ 0 _ _ _ h]; rfl
  · rw [cell_of_row _ _ 1 _ _ _ h]; rfl
  · rw [cell_of_row _ _ 2 _ _ _ h]; rfl
  · rw [cell_of_row _ _ 3 _ _ _ h]; rfl
  · rw [cell_of_row _ _ 4 _ _ _ h]; rfl
theorem heap_five {w : World} {g : Nat} (v0 v1 v2 v3 v4 : Value) (h : w.heap[g]? = some (.cells zrec 52 (0, 0))) :
    (((((w.setCell ⟨g, 0, none⟩ v0).setCell ⟨g, 1, none⟩ v1).setCell ⟨g, 2, none⟩ v2).setCell ⟨g, 3, none⟩ v3).setCell ⟨g, 4, none⟩ v4).heap[g]? = some (.cells #[v0, v1, v2, v3, v4] 52 (0, 0)) := by
  have h0 := heap_setCell_same w g 0 _ 52 v0 h
  have h1 := heap_setCell_same _ g 1 _ 52 v1 h0
  have h2 := heap_setCell_same _ g 2 _ 52 v2 h1
  have h3 := heap_setCell_same _ g 3 _ 52 v3 h2
  have h4 := heap_setCell_same _ g 4 _ 52 v4 h3
  simpa [zrec] using h4
theorem conv_at (w : World) (g m off n cap : Nat) (f : Nat → UInt8) (h : By w g m f) (hm : off + n ≤ m) : (convert 105 9 (.slice (some ⟨g, off, none⟩) n cap)).run Tryz.prog w = .ok (.string (str n fun j => f (off + j))) w := by
  have := run_convert_bytes_back (P := Tryz.prog) w 105 9 5 ⟨g, off, none⟩ cap ((List.range n).map fun j => f (off + j)) Tryz.underlying105 Tryz.underlying5 Tryz.underlying9 (fun j hj => by
    have hj' : j < n := by simpa using hj
    have hadd : (⟨g, off, none⟩ : Addr).add j = ⟨g, off + j, none⟩ := by unfold Addr.add; split <;> simp_all
    rw [hadd, (h.2 (off + j) (by omega)).1]
    simp)
  simpa [str] using this
structure SPy (w0 w : World) (n0 g gp V : Nat) (f : Nat → UInt8) : Prop where
  pc : w.heap[gp]? = some (.cells (partsV g V) 155 (0, 0))
  bs : By w g (36 + V) f
  l1 : n0 < g
  l2 : n0 < gp
  bl : Below n0 w0 w
theorem SPy.drew {w0 w : World} {n0 g gp V : Nat} {f : Nat → UInt8} (h : SPy w0 w n0 g gp V f) : SPy w0 w.drew n0 g gp V f := ⟨h.pc, h.bs, h.l1, h.l2, h.bl.drew⟩
theorem SPy.set {w0 w : World} {n0 g gp V o : Nat} {v : Value} {f : Nat → UInt8} (h : SPy w0 w n0 g gp V f) : SPy w0 (w.setCell ⟨n0, o, none⟩ v) n0 g gp V f :=
  ⟨by rw [heap_skip _ _ _ _ _ (by have := h.l2; omega)]; exact h.pc, h.bs.other (by have := h.l1; omega), h.l1, h.l2, h.bl.setCell (Nat.le_refl _) _⟩
theorem SPy.cell {w0 w : World} {n0 g gp V : Nat} {f : Nat → UInt8} (h : SPy w0 w n0 g gp V f) :
    w.cell? ⟨gp, 0, none⟩ = some (.slice (some ⟨g, 0, none⟩) 3 3) ∧ w.cell? ⟨gp, 1, none⟩ = some (.slice (some ⟨g, 3, none⟩) 1 1) ∧ w.cell? ⟨gp, 2, none⟩ = some (.slice (some ⟨g, 4, none⟩) 2 2) ∧ w.cell? ⟨gp, 3, none⟩ = some (.slice (some ⟨g, 6, none⟩) 12 12) ∧
    w.cell? ⟨gp, 4, none⟩ = some (.slice (some ⟨g, 18, none⟩) 2 2) ∧ w.cell? ⟨gp, 5, none⟩ = some (.slice (some ⟨g, bo V, none⟩) V V) ∧ w.cell? ⟨gp, 6, none⟩ = some (.slice (some ⟨g, 20 + V, none⟩) 16 16) := by
  refine ⟨?_, ?_, ?_, ?_, ?_, ?_, ?_⟩
  · rw [cell_of_row _ _ 0 _ _ _ h.pc]; rfl
  · rw [cell_of_row _ _ 1 _ _ _ h.pc]; rfl
  · rw [cell_of_row _ _ 2 _ _ _ h.pc]; rfl
  · rw [cell_of_row _ _ 3 _ _ _ h.pc]; rfl
  · rw [cell_of_row _ _ 4 _ _ _ h.pc]; rfl
  · rw [cell_of_row _ _ 5 _ _ _ h.pc]; rfl
  · rw [cell_of_row _ _ 6 _ _ _ h.pc]; rfl
theorem res41 {fn : Func} {p u x : Tmp} (h : fn.results = #[.cell p 52, .tmp u, .tmp x]) (tmps : Array Value) (w : World) (g : Nat) (v0 v1 v2 v3 v4 a b : Value)
    (hp : tmps.getD p undef = .pointer (some ⟨g, 0, none⟩)) (ha : tmps.getD u undef = a) (hb : tmps.getD x undef = b) (hg : w.heap[g]? = some (.cells #[v0, v1, v2, v3, v4] 52 (0, 0))) :
    (results fn tmps).run Tryz.prog w = .ok (.tuple #[.agg #[v0, v1, v2, v3, v4], a, b]) w := by
  have hp' : tmps[p]?.getD undef = .pointer (some ⟨g, 0, none⟩) := by simpa using hp
  have ha' : tmps[u]?.getD undef = a := by simpa using ha
  have hb' : tmps[x]?.getD undef = b := by simpa using hb
  have hl := run_loadVar_row (P := Tryz.prog) w g 52 52 _ (0, 0) _ hg Tryz.underlying52 rfl (by kernel_rfl)
  simp [results, h, hp', ha', hb', asAddr, hl]
theorem wrap_small (n : Nat) (h : n < 100000) : IntKind.i64.wrap (n : Int) = (n : Int) := by
  have := wrap_i64_ediv (n : Int) 1 (by omega) (by omega) (by omega)
  rwa [Int.ediv_one] at this
theorem cut_str (s : ByteArray) (i j : Nat) (h : j ≤ s.size) (hij : i ≤ j) : (str (j - i) fun x => sf s (i + x)) = s.extract i j := by
  apply bytes_ext
  · rw [str_size, cut_size _ _ _ h]
  · intro x hx
    rw [str_size] at hx
    rw [sf_str _ _ _ hx, sf_cut _ _ _ _ h (by omega)]
set_option maxRecDepth 100000 in
set_option maxHeartbeats 1000000 in
theorem rparse_bad (s : ByteArray) (p : Nat) (hs : s.size ≤ maxLen) (h : badAt s = some p) (w : World) :
    Calls Tryz.prog 54 #[.string s] w fun e w' => e = .returned (.tuple #[.agg zrec, .int .i64 p, .bool false]) ∧ Below w.heap.size w w' := by
  have hf := fun w => fault_any s hs w
  have e : faultV s = .tuple #[.int .i64 p, .bool true] := by unfold faultV; rw [h]
  rw [e] at hf
  have HF : Hid _ := hf
  clear hf h hs e
  go_enter Tryz.func54, Tryz.ntmps54
  go_wp2_with fail
  refine (HF.out _).mono ?_
  rintro e w1 ⟨rfl, b1⟩
  have r1 : w1.heap[w.heap.size]? = some (.cells zrec 52 (0, 0)) := by rw [b1.block _ (by simp)]; exact heap_of_new _ _ _ rfl
  have B1 : Below w.heap.size w w1 := ((Below.refl _ w).alloc (Nat.le_refl _) _).trans (b1.mono (by simp))
  obtain ⟨z0, z1, z2, z3, z4⟩ := zero_cells r1
  have f0 := fun j => frozen_of_row _ _ j _ _ r1
  go_wp2
  refine bodyPost_ret (v := .tuple #[.agg zrec, .int .i64 p, .bool false]) (res41 Tryz.results54 _ _ w.heap.size _ _ _ _ _ _ _ rfl rfl rfl (heap_five _ _ _ _ _ r1)) rfl ⟨rfl, ?_⟩
  exact ((((B1.setCell (Nat.le_refl _) _).setCell (Nat.le_refl _) _).setCell (Nat.le_refl _) _).setCell (Nat.le_refl _) _).setCell (Nat.le_refl _) _
set_option maxRecDepth 100000 in
set_option maxHeartbeats 4000000 in
theorem rparse_ok (s : ByteArray) (hs : s.size ≤ maxLen) (h : badAt s = none) (w : World) :
    Calls Tryz.prog 54 #[.string s] w fun e w' => e = .returned (.tuple #[recV (sf s 3).toNat (valF (sf s) 4 2) (s.extract 6 18) (s.extract 20 (20 + (sf s 19).toNat)) (s.extract (20 + (sf s 19).toNat) (36 + (sf s 19).toNat)), .int .i64 0, .bool true]) ∧ Below w.heap.size w w' := by
  have hf := fun w => fault_any s hs w
  have e : faultV s = .tuple #[.int .i64 s.size, .bool false] := by unfold faultV; rw [h]
  rw [e] at hf
  have HF : Hid _ := hf
  have hR := bad_none s h
  have hz := hR.z
  have hV2 := (sf s 19).toNat_lt
  obtain ⟨V, hV⟩ : ∃ V, (sf s 19).toNat = V := ⟨_, rfl⟩
  rw [hV] at hz hV2 ⊢
  obtain ⟨A, hA⟩ : ∃ A, (sf s 3).toNat = A := ⟨_, rfl⟩
  obtain ⟨I, hI⟩ : ∃ I, valF (sf s) 4 2 = I := ⟨_, rfl⟩
  have hA2 : A < 256 := by rw [← hA]; exact (sf s 3).toNat_lt
  have hI2 : I < 65536 := by
    have := valF_lt (sf s) 4 2
    have e : (256 : Nat) ^ 2 = 65536 := rfl
    omega
  have HA : Hid (valF (sf s) 3 1 = A) := by show valF (sf s) 3 1 = A; rw [← hA]; simp [valF]
  have HI : Hid (valF (sf s) 4 2 = I) := hI
  have hbo : bo V + V ≤ 36 + V := by unfold bo; split <;> omega
  have hwA : IntKind.i64.wrap (A : Int) = (A : Int) := wrap_small A (by omega)
  have hwI : IntKind.i64.wrap (I : Int) = (I : Int) := wrap_small I (by omega)
  have HX : Hid (recV A I (str 12 fun j => sf s (6 + j)) (str V fun j => sf s (bo V + j)) (str 16 fun j => sf s (20 + V + j)) = recV A I (s.extract 6 18) (s.extract 20 (20 + V)) (s.extract (20 + V) (36 + V))) := by
    have e1 : (str 12 fun j => sf s (6 + j)) = s.extract 6 18 := cut_str s 6 18 (by omega) (by omega)
    have e2 : (str V fun j => sf s (bo V + j)) = s.extract 20 (20 + V) := by
      have e := cut_str s 20 (20 + V) (by omega) (by omega)
      rw [Nat.add_sub_cancel_left] at e
      rw [← e]
      apply str_congr
      intro j hj
      unfold bo
      rw [if_neg (by omega)]
    have e3 : (str 16 fun j => sf s (20 + V + j)) = s.extract (20 + V) (36 + V) := by
      have e := cut_str s (20 + V) (36 + V) (by omega) (by omega)
      rwa [show 36 + V - (20 + V) = 16 by omega] at e
    show _ = _
    rw [e1, e2, e3]
  rw [hA, hI]
  clear hf h hs e hR hV hA hI
  go_enter Tryz.func54, Tryz.ntmps54
  go_wp2_with fail
  refine (HF.out _).mono ?_
  rintro e w2 ⟨rfl, b2⟩
  have r2 : w2.heap[w.heap.size]? = some (.cells zrec 52 (0, 0)) := by rw [b2.block _ (by simp)]; exact heap_of_new _ _ _ rfl
  have B2 : Below w.heap.size w w2 := ((Below.refl _ w).alloc (Nat.le_refl _) _).trans (b2.mono (by simp))
  have y2 := b2.size
  simp at y2
  clear b2 HF
  obtain ⟨cap, o, hcap, hrun, hBy⟩ := bs_run s w2
  replace hrun : Sem.run Tryz.prog (Bs (.string s)) w2 = _ := hrun
  rw [hz] at hrun hBy hcap
  have HBy : Hid _ := hBy
  clear hBy
  go_wp2_with fail
  have hct := fun W => cut_any w2.heap.size V cap (by omega) hcap W
  unfold partsV at hct
  refine (hct _).mono ?_
  clear hct
  rintro e w3 ⟨rfl, b3⟩
  have y3 := b3.size
  simp at y3
  have S1 : SPy w (w3.alloc (.cells (partsV w2.heap.size V) 155)) w.heap.size w2.heap.size w3.heap.size V (sf s) := by
    refine ⟨heap_of_new _ _ _ rfl, (By.keep HBy.out b3 (by simp)).alloc _, by omega, by omega, ?_⟩
    exact (((B2.alloc B2.size o).drew.trans (b3.mono (by have := B2.size; simp; omega)))).alloc (by have := B2.size; omega) _
  have R0 : Hid ((w3.alloc (.cells (partsV w2.heap.size V) 155)).drew.heap[w.heap.size]? = some (.cells zrec 52 (0, 0))) := by
    refine heap_of_old w3 _ _ _ (by omega) ?_
    rw [b3.block _ (by simp; omega)]
    exact heap_of_old w2.drew _ _ _ (by show _ < w2.heap.size; omega) r2
  clear b3 HBy r2 B2 hrun
  go_wp2_with fail
  suffices H : ∀ W, SPy w W w.heap.size w2.heap.size w3.heap.size V (sf s) → W.heap[w.heap.size]? = some (.cells zrec 52 (0, 0)) → Code.wp Tryz.prog _ _ _ W from H _ S1 R0.out
  clear S1 R0
  intro W S1 r0
  have R0 : Hid _ := r0
  have HS1 : Hid _ := S1
  clear r0
  refine wp_region_held_drew (S := fun W' => SPy w W' w.heap.size w2.heap.size w3.heap.size V (sf s)) (by kernel_rfl) S1.drew (fun hHeld => ?_)
  refine tp 0 _ ?r1
  refine tk 1 ?v2 ?y2 ?r2
  case y2 => (intro W' hW; obtain ⟨p0, p1, p2, p3, p4, p5, p6⟩ := SPy.cell hW; go_simp; try with_reducible rfl)
  refine tp 4 _ ?r3
  refine tk 5 ?v4 ?y4 ?r4
  case y4 => (intro W' hW; obtain ⟨p0, p1, p2, p3, p4, p5, p6⟩ := SPy.cell hW; go_simp; try with_reducible rfl)
  refine tp 8 _ ?r5
  refine tk 9 ?v6 ?y6 ?r6
  case y6 => (intro W' hW; obtain ⟨p0, p1, p2, p3, p4, p5, p6⟩ := SPy.cell hW; go_simp; try with_reducible rfl)
  refine tk 10 ?v7 ?y7 ?r7
  case y7 => (intro W' hW; have hc : Sem.run Tryz.prog (Cv8 (.slice (some ⟨w2.heap.size, 6, none⟩) 12 12)) W' = _ := conv_at W' w2.heap.size (36 + V) (6) 12 12 (sf s) (SPy.bs hW) (by omega); go_simp; try with_reducible rfl)
  refine tp 11 _ ?r8
  refine tk 12 ?v9 ?y9 ?r9
  case y9 => (intro W' hW; obtain ⟨p0, p1, p2, p3, p4, p5, p6⟩ := SPy.cell hW; go_simp; try with_reducible rfl)
  refine tk 13 ?v10 ?y10 ?r10
  case y10 => (intro W' hW; have hc : Sem.run Tryz.prog (Cv8 (.slice (some ⟨w2.heap.size, bo V, none⟩) V V)) W' = _ := conv_at W' w2.heap.size (36 + V) (bo V) V V (sf s) (SPy.bs hW) (by have := hbo; omega); go_simp; try with_reducible rfl)
  refine tp 14 _ ?r11
  refine tk 15 ?v12 ?y12 ?r12
  case y12 => (intro W' hW; obtain ⟨p0, p1, p2, p3, p4, p5, p6⟩ := SPy.cell hW; go_simp; try with_reducible rfl)
  refine tk 16 ?v13 ?y13 ?r13
  case y13 => (intro W' hW; have hc : Sem.run Tryz.prog (Cv8 (.slice (some ⟨w2.heap.size, 20 + V, none⟩) 16 16)) W' = _ := conv_at W' w2.heap.size (36 + V) (20 + V) 16 16 (sf s) (SPy.bs hW) (by omega); go_simp; try with_reducible rfl)
  refine wpAnyH_ready (rs := [2]) (by kernel_rfl) (by simp) ?_
  refine AllReadyH.cons rfl (fun K hK => ?_) AllReadyH.nil
  go_simp
  refine (nof_cells w2.heap.size 3 1 1 (sf s) (by omega) (by omega) _ (fun j hj => ((SPy.bs hHeld).2 (3 + j) (by omega)).1)).mono ?_
  rintro e wa ⟨rfl, hw⟩
  subst hw
  go_wp2_with fail
  refine hK.out _ _ hHeld (fun hHeld => ?_)
  clear hK K
  rw [HA.out]
  refine tp 3 _ ?r14
  refine wpAnyH_ready (rs := [6]) (by kernel_rfl) (by simp) ?_
  refine AllReadyH.cons rfl (fun K hK => ?_) AllReadyH.nil
  go_simp
  refine (nof_cells w2.heap.size 4 2 2 (sf s) (by omega) (by omega) _ (fun j hj => ((SPy.bs hHeld).2 (4 + j) (by omega)).1)).mono ?_
  rintro e wa ⟨rfl, hw⟩
  subst hw
  go_wp2_with fail
  refine hK.out _ _ hHeld (fun hHeld => ?_)
  clear hK K
  rw [HI.out]
  refine tp 7 _ ?r15
  refine tp 17 _ ?r16
  refine wpAnyH_ready (rs := [18]) (by kernel_rfl) (by simp) ?_
  refine AllReadyH.cons rfl (fun K hK => ?_) AllReadyH.nil
  obtain ⟨z0, z1, z2, z3, z4⟩ := zero_cells R0.out
  have f0 := fun j => frozen_of_row _ _ j _ _ R0.out
  go_simp
  refine hK.out _ _ (SPy.drew (SPy.set (SPy.set (SPy.set (SPy.set (SPy.set HS1.out)))))) (fun hHeld => ?_)
  clear hK K
  clear z0 z1 z2 z3 z4 f0
  refine tp 19 _ ?r17
  refine tp 20 _ ?r18
  refine wpAnyH_done (by kernel_rfl) ?_ _
  have hh : (((((W.setCell ⟨w.heap.size, 0, none⟩ (.int .i64 (A : Int))).setCell ⟨w.heap.size, 1, none⟩ (.int .i64 (I : Int))).setCell ⟨w.heap.size, 2, none⟩ (.string (str 12 fun j => sf s (6 + j)))).setCell ⟨w.heap.size, 3, none⟩ (.string (str V fun j => sf s (bo V + j)))).setCell ⟨w.heap.size, 4, none⟩ (.string (str 16 fun j => sf s (20 + V + j)))).drew.heap[w.heap.size]? = some (.cells #[(.int .i64 (A : Int)), (.int .i64 (I : Int)), (.string (str 12 fun j => sf s (6 + j))), (.string (str V fun j => sf s (bo V + j))), (.string (str 16 fun j => sf s (20 + V + j)))] 52 (0, 0)) := by rw [heap_drew]; exact heap_five (.int .i64 (A : Int)) (.int .i64 (I : Int)) (.string (str 12 fun j => sf s (6 + j))) (.string (str V fun j => sf s (bo V + j))) (.string (str 16 fun j => sf s (20 + V + j))) R0.out
  have hB := SPy.bl hHeld
  generalize (((((W.setCell ⟨w.heap.size, 0, none⟩ (.int .i64 (A : Int))).setCell ⟨w.heap.size, 1, none⟩ (.int .i64 (I : Int))).setCell ⟨w.heap.size, 2, none⟩ (.string (str 12 fun j => sf s (6 + j)))).setCell ⟨w.heap.size, 3, none⟩ (.string (str V fun j => sf s (bo V + j)))).setCell ⟨w.heap.size, 4, none⟩ (.string (str 16 fun j => sf s (20 + V + j)))).drew = WW at *
  clear hHeld HS1 R0
  go_wp2
  refine bodyPost_ret (res41 Tryz.results54 _ _ w.heap.size _ _ _ _ _ _ _ rfl rfl rfl hh) rfl ⟨?_, hB⟩
  rw [← HX.out]
  rfl
end Go.Proofs.YtgalgjmhdbncbaaGreat
