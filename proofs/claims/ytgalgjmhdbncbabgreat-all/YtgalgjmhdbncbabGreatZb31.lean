import Derived.Test.YtgalgjmhdbncbabGreatZb30
import Derived.Test.YtgalgjmhdbncbabGreatZb27
import Derived.Deep.QuietTactic
import Derived.BigQuiet
namespace Go.Proofs.YtgalgjmhdbncbabGreat
open Go.RowKit
attribute [local go_sem ↓] Go.wp_at_zero Go.wp_at_succ

theorem new41 (w : World) (v0 v1 v2 v3 v4 : Value) : (w.alloc (.cells #[v0, v1, v2, v3, v4] 35)).heap[w.heap.size]? = some (.cells #[v0, v1, v2, v3, v4] 35 (0, 0)) := heap_of_new _ _ _ rfl
theorem cells5 {w : World} {g : Nat} {v0 v1 v2 v3 v4 : Value} (h : w.heap[g]? = some (.cells #[v0, v1, v2, v3, v4] 35 (0, 0))) : w.cell? ⟨g, 0, none⟩ = some v0 ∧ w.cell? ⟨g, 1, none⟩ = some v1 ∧ w.cell? ⟨g, 2, none⟩ = some v2 ∧ w.cell? ⟨g, 3, none⟩ = some v3 ∧ w.cell? ⟨g, 4, none⟩ = some v4 := by
  refine ⟨?_, ?_, ?_, ?_, ?_⟩
  · rw [cell_of_row _ _ 0 _ _ _ h]; rfl
  · rw [cell_of_row _ _ 1 _ _ _ h]; rfl
  · rw [cell_of_row _ _ 2 _ _ _ h]; rfl
  · rw [cell_of_row _ _ 3 _ _ _ h]; rfl
  · rw [cell_of_row _ _ 4 _ _ _ h]; rfl
set_option maxRecDepth 100000 in
set_option maxHeartbeats 1000000 in
theorem cparse_mid (s : ByteArray) (a i : Int) (n b t : ByteArray) (p : Int) (ok : Bool)
    (hP : ∀ w, Calls Tryz.prog 93 #[.string s] w fun e w' => e = .returned (.tuple #[.agg #[.int .i64 a, .int .i64 i, .string n, .string b, .string t], .int .i64 p, .bool ok]) ∧ Below w.heap.size w w') (w : World) :
    Calls Tryz.prog 47 #[.string s] w fun e w' => e = .returned (if ok = true then .tuple #[recV a i n b t, .int .i64 0, .int .i64 0] else .tuple #[recV 0 0 ⟨#[]⟩ ⟨#[]⟩ ⟨#[]⟩, .int .i64 p, .int .i64 7]) ∧ Below w.heap.size w w' := by
  have HP : Hid _ := hP
  clear hP
  go_enter Tryz.func47, Tryz.ntmps47
  go_wp2_with fail
  refine (HP.out _).mono ?_
  rintro e w1 ⟨rfl, b1⟩
  have r1 : w1.heap[w.heap.size]? = some (.cells zrec 35 (0, 0)) := by rw [b1.block _ (by simp)]; exact heap_of_new _ _ _ rfl
  have B1 : Below w.heap.size w w1 := ((Below.refl _ w).alloc (Nat.le_refl _) _).trans (b1.mono (by simp))
  have y1 := b1.size
  simp at y1
  have l1 : w.heap.size < w1.heap.size := by omega
  clear b1 HP
  obtain ⟨z0, z1, z2, z3, z4⟩ := zero_cells r1
  have f0 := fun j => frozen_of_row _ _ j _ _ r1
  have R1 : Hid _ := r1
  have HB1 : Hid _ := B1
  clear r1 B1
  cases ok
  · go_wp2
    refine bodyPost_ret (res41 Tryz.results47 _ _ w.heap.size _ _ _ _ _ _ _ rfl rfl rfl (heap_of_old _ _ _ _ (by simp; omega) (heap_five _ _ _ _ _ R1.out))) rfl ⟨rfl, ?_⟩
    exact (((((HB1.out.setCell (Nat.le_refl _) _).setCell (Nat.le_refl _) _).setCell (Nat.le_refl _) _).setCell (Nat.le_refl _) _).setCell (Nat.le_refl _) _).alloc (by simp; omega) _
  · go_wp2
    refine bodyPost_ret (res41 Tryz.results47 _ _ w.heap.size _ _ _ _ _ _ _ rfl rfl rfl (heap_of_old _ _ _ _ (by simp; omega) (heap_five _ _ _ _ _ R1.out))) rfl ⟨rfl, ?_⟩
    exact (((((HB1.out.setCell (Nat.le_refl _) _).setCell (Nat.le_refl _) _).setCell (Nat.le_refl _) _).setCell (Nat.le_refl _) _).setCell (Nat.le_refl _) _).alloc (by simp; omega) _
theorem parse_bad (s : ByteArray) (p : Nat) (hs : s.size ≤ maxLen) (h : badAt s = some p) (w : World) :
    Calls Tryz.prog 47 #[.string s] w fun e w' => e = .returned (.tuple #[recV 0 0 ⟨#[]⟩ ⟨#[]⟩ ⟨#[]⟩, .int .i64 p, .int .i64 7]) ∧ Below w.heap.size w w' :=
  cparse_mid s 0 0 ⟨#[]⟩ ⟨#[]⟩ ⟨#[]⟩ p false (fun w => rparse_bad s p hs h w) w
theorem parse_ok (s : ByteArray) (hs : s.size ≤ maxLen) (h : badAt s = none) (w : World) :
    Calls Tryz.prog 47 #[.string s] w fun e w' => e = .returned (.tuple #[recV (sf s 3).toNat (valF (sf s) 4 2) (s.extract 6 18) (s.extract 20 (20 + (sf s 19).toNat)) (s.extract (20 + (sf s 19).toNat) (36 + (sf s 19).toNat)), .int .i64 0, .int .i64 0]) ∧ Below w.heap.size w w' :=
  cparse_mid s _ _ _ _ _ 0 true (fun w => rparse_ok s hs h w) w
theorem parse_enc (A I : Nat) (n b t : ByteArray) (R : IsRec A I n b t) (w : World) :
    Calls Tryz.prog 47 #[.string (encT A I n b t)] w fun e w' => e = .returned (.tuple #[recV A I n b t, .int .i64 0, .int .i64 0]) ∧ Below w.heap.size w w' := by
  have h := parse_ok (encT A I n b t) (by rw [encT_size]; have := R.b; unfold maxLen; omega) (bad_enc R) w
  rw [read_alg R, read_id R, read_len R, read_nonce R, read_body, read_tag R] at h
  exact h
end Go.Proofs.YtgalgjmhdbncbabGreat
namespace Go.Proofs.YtgalgjmhdbncbabGreat
open Go.RowKit
attribute [local go_sem ↓] Go.wp_at_zero Go.wp_at_succ

set_option maxRecDepth 100000 in
set_option maxHeartbeats 2000000 in
theorem refEncode_no (a i : Int) (n b t : ByteArray) (h : ¬ RecOk a i n b t) (hb : b.size ≤ maxLen) (w : World) :
    Calls Tryz.prog 46 #[recV a i n b t] w fun e w' => e = .returned (.tuple #[.string ⟨#[]⟩, .int .i64 1]) ∧ Below w.heap.size w w' := by
  unfold maxLen at hb
  unfold RecOk at h
  unfold recV
  by_cases h0 : a < 1
  case pos =>
    clear h
    go_enter Tryz.func46, Tryz.ntmps46
    go_wp2
    go_ret2
    exact ⟨rfl, (Below.refl _ _).alloc (Nat.le_refl _) _⟩
  by_cases h0' : 3 < a
  case pos =>
    clear h
    go_enter Tryz.func46, Tryz.ntmps46
    go_wp2
    go_ret2
    exact ⟨rfl, (Below.refl _ _).alloc (Nat.le_refl _) _⟩
  by_cases h1 : i < 0
  case pos =>
    clear h
    go_enter Tryz.func46, Tryz.ntmps46
    go_wp2
    go_ret2
    exact ⟨rfl, (Below.refl _ _).alloc (Nat.le_refl _) _⟩
  by_cases h2 : 65535 < i
  case pos =>
    clear h
    go_enter Tryz.func46, Tryz.ntmps46
    go_wp2
    go_ret2
    exact ⟨rfl, (Below.refl _ _).alloc (Nat.le_refl _) _⟩
  by_cases h3 : n.size = 12
  case neg =>
    have c3 : ((n.size : Int) != 12) = true := by rw [bne_iff_ne]; omega
    clear h h3
    go_enter Tryz.func46, Tryz.ntmps46
    go_wp2
    go_ret2
    exact ⟨rfl, (Below.refl _ _).alloc (Nat.le_refl _) _⟩
  have c3 : ((n.size : Int) != 12) = false := by rw [h3]; rfl
  by_cases h4 : 200 < b.size
  case pos =>
    clear h h3
    go_enter Tryz.func46, Tryz.ntmps46
    go_wp2
    go_ret2
    exact ⟨rfl, (Below.refl _ _).alloc (Nat.le_refl _) _⟩
  by_cases h5 : t.size = 16
  case neg =>
    have c5 : ((t.size : Int) != 16) = true := by rw [bne_iff_ne]; omega
    clear h h3 h5
    go_enter Tryz.func46, Tryz.ntmps46
    go_wp2
    go_ret2
    exact ⟨rfl, (Below.refl _ _).alloc (Nat.le_refl _) _⟩
  exact absurd ⟨⟨by omega, by omega⟩, by omega, by omega, h3, by omega, h5⟩ h
end Go.Proofs.YtgalgjmhdbncbabGreat
namespace Go.Proofs.YtgalgjmhdbncbabGreat
open Go.RowKit
attribute [local go_sem ↓] Go.wp_at_zero Go.wp_at_succ

def leastT : ByteArray := ⟨#[99, 103, 1, 1]⟩
def mostT : ByteArray := ⟨#[99, 103, 1, 3]⟩
theorem go_range (k : Nat) (hk : k < 4) (b : UInt8) : goB k b = true ↔ (sf leastT k).toNat ≤ b.toNat ∧ b.toNat ≤ (sf mostT k).toNat := by
  rcases (by omega : k = 0 ∨ k = 1 ∨ k = 2 ∨ k = 3) with rfl | rfl | rfl | rfl
  · rw [go0, ← UInt8.toNat_inj]
    show b.toNat = 99 ↔ 99 ≤ b.toNat ∧ b.toNat ≤ 99
    omega
  · rw [go1, ← UInt8.toNat_inj]
    show b.toNat = 103 ↔ 103 ≤ b.toNat ∧ b.toNat ≤ 103
    omega
  · rw [go2, ← UInt8.toNat_inj]
    show b.toNat = 1 ↔ 1 ≤ b.toNat ∧ b.toNat ≤ 1
    omega
  · rw [go3]
    show _ ↔ 1 ≤ b.toNat ∧ b.toNat ≤ 3
    omega
def refPV (s : ByteArray) : Value := match badAt s with
  | some p => .tuple #[recV 0 0 ⟨#[]⟩ ⟨#[]⟩ ⟨#[]⟩, .int .i64 p, .int .i64 7]
  | none => .tuple #[recV (sf s 3).toNat (valF (sf s) 4 2) (s.extract 6 18) (s.extract 20 (20 + (sf s 19).toNat)) (s.extract (20 + (sf s 19).toNat) (36 + (sf s 19).toNat)), .int .i64 0, .int .i64 0]
set_option maxRecDepth 100000 in
set_option maxHeartbeats 8000000 in
theorem refParse_any (s : ByteArray) (hs : s.size ≤ maxLen) (w : World) : Calls Tryz.prog 48 #[.string s] w fun e w' => e = .returned (refPV s) ∧ Below w.heap.size w w' := by
  replace hs : s.size ≤ 9223372036854775807 := hs
  go_enter Tryz.func48, Tryz.ntmps48
  go_wp2_with fail
  go_loopw [7] (fun i wr => ∃ k : Nat, k ≤ 4 ∧ i = .int .i64 k ∧ Hid (∀ j, j < k → j < s.size ∧ goB j (sf s j) = true) ∧ wr.heap[w.heap.size]? = some (.cells zrec 35 (0, 0)) ∧ Below w.heap.size w wr) (fun i _ => 4 - (intOf i).toNat)
  case atStart => exact ⟨0, by omega, rfl, fun j hj => by omega, heap_of_new _ _ _ rfl, (Below.refl _ w).alloc (Nat.le_refl _) _⟩
  case round =>
    obtain ⟨k, hk, rfl, HG, R0, hB⟩ := hrel
    by_cases hk4 : k < 4
    · have hd4 : decide ((k : Int) < 4) = true := decide_eq_true (by omega)
      by_cases hsz : s.size ≤ k
      case pos =>
        have hge : decide ((s.size : Int) ≤ (k : Int)) = true := decide_eq_true (by omega)
        have HB : Hid (badAt s = some k) := by
          have e : s.size = k := by
            rcases Nat.lt_or_ge s.size k with h | h
            · have := (HG.out s.size h).1; omega
            · omega
          have := bad_short s (by omega) (fun j hj => (HG.out j (by omega)).2)
          rw [e] at this
          exact this
        go_wp2_with fail
        go_quiet (fail)
        have R1 : Hid ((wr.drewN nq).heap[w.heap.size]? = some (.cells zrec 35 (0, 0))) := R0
        have HB1 : Hid (Below w.heap.size w (wr.drewN nq)) := below_drewN hB nq
        generalize wr.drewN nq = W at *
        obtain ⟨z0, z1, z2, z3, z4⟩ := zero_cells R1.out
        have f0 := fun j => frozen_of_row _ _ j _ _ R1.out
        go_wp2
        refine bodyPost_ret (res41 Tryz.results48 _ _ w.heap.size _ _ _ _ _ _ _ rfl rfl rfl (heap_five _ _ _ _ _ R1.out)) rfl ⟨by unfold refPV; rw [HB.out]; rfl, ?_⟩
        exact ((((HB1.out.setCell (Nat.le_refl _) _).setCell (Nat.le_refl _) _).setCell (Nat.le_refl _) _).setCell (Nat.le_refl _) _).setCell (Nat.le_refl _) _
      have hge : decide ((s.size : Int) ≤ (k : Int)) = false := decide_eq_false (by omega)
      have hki : (k : Int) < (s.size : Int) := by omega
      have hks : k < s.size := by omega
      have hix := sfi s k hks
      have hi1 := sfi (⟨#[99, 103, 1, 1]⟩ : ByteArray) k hk4
      have hi2 := sfi (⟨#[99, 103, 1, 3]⟩ : ByteArray) k hk4
      have hgr := go_range k hk4 (sf s k)
      unfold leastT mostT at hgr
      generalize sf (⟨#[99, 103, 1, 1]⟩ : ByteArray) k = LO at *
      generalize sf (⟨#[99, 103, 1, 3]⟩ : ByteArray) k = HI at *
      have HGR : Hid _ := hgr
      clear hgr
      by_cases hl : (sf s k).toNat < LO.toNat
      case pos =>
        have hlo : decide (((sf s k).toNat : Int) < (LO.toNat : Int)) = true := decide_eq_true (by omega)
        have HB : Hid (badAt s = some k) := bad_first s k hks (by omega) (fun j hj => (HG.out j hj).2) (by
          cases e : goB k (sf s k)
          · rfl
          · exact absurd (HGR.out.1 e).1 (by omega))
        go_wp2_with fail
        go_quiet (fail)
        have R1 : Hid ((wr.drewN nq).heap[w.heap.size]? = some (.cells zrec 35 (0, 0))) := R0
        have HB1 : Hid (Below w.heap.size w (wr.drewN nq)) := below_drewN hB nq
        generalize wr.drewN nq = W at *
        obtain ⟨z0, z1, z2, z3, z4⟩ := zero_cells R1.out
        have f0 := fun j => frozen_of_row _ _ j _ _ R1.out
        go_wp2
        refine bodyPost_ret (res41 Tryz.results48 _ _ w.heap.size _ _ _ _ _ _ _ rfl rfl rfl (heap_five _ _ _ _ _ R1.out)) rfl ⟨by unfold refPV; rw [HB.out]; rfl, ?_⟩
        exact ((((HB1.out.setCell (Nat.le_refl _) _).setCell (Nat.le_refl _) _).setCell (Nat.le_refl _) _).setCell (Nat.le_refl _) _).setCell (Nat.le_refl _) _
      have hlo : decide (((sf s k).toNat : Int) < (LO.toNat : Int)) = false := decide_eq_false (by omega)
      by_cases hh : HI.toNat < (sf s k).toNat
      case pos =>
        have hhi : decide ((HI.toNat : Int) < ((sf s k).toNat : Int)) = true := decide_eq_true (by omega)
        have HB : Hid (badAt s = some k) := bad_first s k hks (by omega) (fun j hj => (HG.out j hj).2) (by
          cases e : goB k (sf s k)
          · rfl
          · exact absurd (HGR.out.1 e).2 (by omega))
        go_wp2_with fail
        go_quiet (fail)
        have R1 : Hid ((wr.drewN nq).heap[w.heap.size]? = some (.cells zrec 35 (0, 0))) := R0
        have HB1 : Hid (Below w.heap.size w (wr.drewN nq)) := below_drewN hB nq
        generalize wr.drewN nq = W at *
        obtain ⟨z0, z1, z2, z3, z4⟩ := zero_cells R1.out
        have f0 := fun j => frozen_of_row _ _ j _ _ R1.out
        go_wp2
        refine bodyPost_ret (res41 Tryz.results48 _ _ w.heap.size _ _ _ _ _ _ _ rfl rfl rfl (heap_five _ _ _ _ _ R1.out)) rfl ⟨by unfold refPV; rw [HB.out]; rfl, ?_⟩
        exact ((((HB1.out.setCell (Nat.le_refl _) _).setCell (Nat.le_refl _) _).setCell (Nat.le_refl _) _).setCell (Nat.le_refl _) _).setCell (Nat.le_refl _) _
      have hhi : decide ((HI.toNat : Int) < ((sf s k).toNat : Int)) = false := decide_eq_false (by omega)
      have HG2 : Hid (∀ j, j < k + 1 → j < s.size ∧ goB j (sf s j) = true) := fun j hj => by
        by_cases e : j = k
        · subst e; exact ⟨hks, HGR.out.2 ⟨by omega, by omega⟩⟩
        · exact HG.out j (by omega)
      go_wp2_with fail
      go_quiet (fail)
      have R1 : Hid ((wr.drewN nq).heap[w.heap.size]? = some (.cells zrec 35 (0, 0))) := R0
      have HB1 : Hid (Below w.heap.size w (wr.drewN nq)) := below_drewN hB nq
      generalize wr.drewN nq = W at *
      obtain ⟨z0, z1, z2, z3, z4⟩ := zero_cells R1.out
      have f0 := fun j => frozen_of_row _ _ j _ _ R1.out
      go_wp2
      go_roundw
      case rel => exact ⟨k + 1, by omega, by go_num, HG2, R1.out, HB1.out⟩
      case measure => simp [intOf]; omega
    · have hk5 : k = 4 := by omega
      subst hk5
      have hg4 : 3 < s.size := (HG.out 3 (by omega)).1
      have R1 : Hid _ := R0
      have HB1 : Hid _ := hB
      have hd4 : decide ((4 : Int) < 4) = false := by decide
      obtain ⟨z0, z1, z2, z3, z4⟩ := zero_cells R0
      have f0 := fun j => frozen_of_row _ _ j _ _ R0
      clear R0 hB hk hk4
      have gm : ∀ j, j < 18 → goB j (sf s j) = true := fun j hj => by
        by_cases h : j < 4
        · exact (HG.out j h).2
        · exact goMid j _ (by omega) (by omega) (by omega)
      have GM : Hid _ := gm
      clear gm HG
      by_cases h18 : 18 < s.size
      case neg =>
        have hd18 : decide ((18 : Int) < (s.size : Int)) = false := decide_eq_false (by omega)
        have HB : Hid (badAt s = some s.size) := bad_short s (by omega) (fun j hj => GM.out j (by omega))
        go_wp2
        refine bodyPost_ret (res41 Tryz.results48 _ _ w.heap.size _ _ _ _ _ _ _ rfl rfl rfl (heap_five _ _ _ _ _ R1.out)) rfl ⟨by unfold refPV; rw [HB.out]; rfl, ?_⟩
        exact ((((HB1.out.setCell (Nat.le_refl _) _).setCell (Nat.le_refl _) _).setCell (Nat.le_refl _) _).setCell (Nat.le_refl _) _).setCell (Nat.le_refl _) _
      have hd18 : decide ((18 : Int) < (s.size : Int)) = true := decide_eq_true (by omega)
      have hi18 : (18 : Int) < (s.size : Int) := by omega
      have hx18 := sfi s 18 h18
      by_cases e18 : (sf s 18).toNat = 0
      case neg =>
        have c18 : (((sf s 18).toNat : Int) != 0) = true := by rw [bne_iff_ne]; omega
        have HB : Hid (badAt s = some 18) := bad_first s 18 h18 (by omega) (fun j hj => GM.out j hj) (by
          cases e : goB 18 (sf s 18)
          · rfl
          · exact absurd (congrArg UInt8.toNat ((go18 _).1 e)) e18)
        clear e18
        go_wp2
        refine bodyPost_ret (res41 Tryz.results48 _ _ w.heap.size _ _ _ _ _ _ _ rfl rfl rfl (heap_five _ _ _ _ _ R1.out)) rfl ⟨by unfold refPV; rw [HB.out]; rfl, ?_⟩
        exact ((((HB1.out.setCell (Nat.le_refl _) _).setCell (Nat.le_refl _) _).setCell (Nat.le_refl _) _).setCell (Nat.le_refl _) _).setCell (Nat.le_refl _) _
      have c18 : (((sf s 18).toNat : Int) != 0) = false := by rw [e18]; rfl
      have G18 : Hid (∀ j, j < 19 → goB j (sf s j) = true) := fun j hj => by
        by_cases h : j = 18
        · subst h; exact (go18 _).2 (UInt8.toNat_inj.1 e18)
        · exact GM.out j (by omega)
      clear e18 GM
      by_cases h20 : s.size < 20
      case pos =>
        have HB : Hid (badAt s = some s.size) := bad_short s h20 (fun j hj => G18.out j (by omega))
        go_wp2
        refine bodyPost_ret (res41 Tryz.results48 _ _ w.heap.size _ _ _ _ _ _ _ rfl rfl rfl (heap_five _ _ _ _ _ R1.out)) rfl ⟨by unfold refPV; rw [HB.out]; rfl, ?_⟩
        exact ((((HB1.out.setCell (Nat.le_refl _) _).setCell (Nat.le_refl _) _).setCell (Nat.le_refl _) _).setCell (Nat.le_refl _) _).setCell (Nat.le_refl _) _
      have hi19 : (19 : Int) < (s.size : Int) := by omega
      have hx19 := sfi s 19 (by omega)
      have hl19 := (sf s 19).toNat_lt
      by_cases h200 : 200 < (sf s 19).toNat
      case pos =>
        have HB : Hid (badAt s = some 19) := bad_first s 19 (by omega) (by omega) (fun j hj => G18.out j hj) (by
          cases e : goB 19 (sf s 19)
          · rfl
          · exact absurd ((go19 _).1 e) (by omega))
        go_wp2
        refine bodyPost_ret (res41 Tryz.results48 _ _ w.heap.size _ _ _ _ _ _ _ rfl rfl rfl (heap_five _ _ _ _ _ R1.out)) rfl ⟨by unfold refPV; rw [HB.out]; rfl, ?_⟩
        exact ((((HB1.out.setCell (Nat.le_refl _) _).setCell (Nat.le_refl _) _).setCell (Nat.le_refl _) _).setCell (Nat.le_refl _) _).setCell (Nat.le_refl _) _
      have hbl := bad_long s (by omega) (fun j hj => by
        by_cases h : j = 19
        · subst h; exact (go19 _).2 (by omega)
        · exact G18.out j (by omega))
      have HBL : Hid _ := hbl
      clear hbl G18
      rcases (by omega : s.size < 36 + (sf s 19).toNat ∨ 36 + (sf s 19).toNat < s.size ∨ s.size = 36 + (sf s 19).toNat) with h | h | h
      · have HB : Hid (badAt s = some s.size) := by show _ = _; rw [HBL.out, if_pos h]
        have hdl : decide ((s.size : Int) < 20 + ((sf s 19).toNat : Int) + 16) = true := decide_eq_true (by omega)
        go_wp2
        refine bodyPost_ret (res41 Tryz.results48 _ _ w.heap.size _ _ _ _ _ _ _ rfl rfl rfl (heap_five _ _ _ _ _ R1.out)) rfl ⟨by unfold refPV; rw [HB.out]; rfl, ?_⟩
        exact ((((HB1.out.setCell (Nat.le_refl _) _).setCell (Nat.le_refl _) _).setCell (Nat.le_refl _) _).setCell (Nat.le_refl _) _).setCell (Nat.le_refl _) _
      · have HB : Hid (badAt s = some (36 + (sf s 19).toNat)) := by show _ = _; rw [HBL.out, if_neg (by omega), if_pos h]
        have hdl : decide ((s.size : Int) < 20 + ((sf s 19).toNat : Int) + 16) = false := decide_eq_false (by omega)
        have hdg : decide (20 + ((sf s 19).toNat : Int) + 16 < (s.size : Int)) = true := decide_eq_true (by omega)
        have HE : Hid ((((36 + (sf s 19).toNat : Nat)) : Int) = 20 + ((sf s 19).toNat : Int) + 16) := by show _ = _; omega
        go_wp2
        refine bodyPost_ret (res41 Tryz.results48 _ _ w.heap.size _ _ _ _ _ _ _ rfl rfl rfl (heap_five _ _ _ _ _ R1.out)) rfl ⟨by unfold refPV; rw [HB.out]; simp only [HE.out]; rfl, ?_⟩
        exact ((((HB1.out.setCell (Nat.le_refl _) _).setCell (Nat.le_refl _) _).setCell (Nat.le_refl _) _).setCell (Nat.le_refl _) _).setCell (Nat.le_refl _) _
      · have HB : Hid (badAt s = none) := by show _ = _; rw [HBL.out, if_neg (by omega), if_neg (by omega)]
        have hdl : decide ((s.size : Int) < 20 + ((sf s 19).toNat : Int) + 16) = false := decide_eq_false (by omega)
        have hdg : decide (20 + ((sf s 19).toNat : Int) + 16 < (s.size : Int)) = false := decide_eq_false (by omega)
        have HS : Hid _ := h
        have hi3 : (3 : Int) < (s.size : Int) := by omega
        have hx3 := sfi s 3 (by omega)
        have k18 : (18 : Int) ≤ (s.size : Int) := by omega
        have hb3 := (sf s 3).toNat_lt
        have kv : 4 + 2 ≤ s.size := by omega
        have e16 : (20 + ((sf s 19).toNat : Int) + 16) - 16 = ((20 + (sf s 19).toNat : Nat) : Int) := by omega
        have k20 : (20 : Int) ≤ ((20 + (sf s 19).toNat : Nat) : Int) := by omega
        have kV : ((20 + (sf s 19).toNat : Nat) : Int) ≤ (s.size : Int) := by omega
        have kW : 20 + ((sf s 19).toNat : Int) ≤ (s.size : Int) := by omega
        clear h
        go_wp2_with fail
        refine (value_ref s 4 2 kv (by omega) (by omega) _).mono ?_
        rintro e w5 ⟨rfl, hw⟩
        subst hw
        generalize hI : valF (sf s) 4 2 = I at *
        have HI : Hid _ := hI
        clear hI
        go_wp2_with fail
        go_region
        all_goals
          have hh : (((((w5.setCell ⟨w.heap.size, 0, none⟩ (.int .i64 ((sf s 3).toNat : Int))).setCell ⟨w.heap.size, 1, none⟩ (.int .i64 (I : Int))).setCell ⟨w.heap.size, 2, none⟩ (.string (s.extract 6 18))).setCell ⟨w.heap.size, 3, none⟩ (.string (s.extract 20 (20 + (sf s 19).toNat)))).setCell ⟨w.heap.size, 4, none⟩ (.string (s.extract (20 + (sf s 19).toNat) s.size))).drew.heap[w.heap.size]? = some (.cells #[(.int .i64 ((sf s 3).toNat : Int)), (.int .i64 (I : Int)), (.string (s.extract 6 18)), (.string (s.extract 20 (20 + (sf s 19).toNat))), (.string (s.extract (20 + (sf s 19).toNat) s.size))] 35 (0, 0)) := by rw [heap_drew]; exact heap_five (.int .i64 ((sf s 3).toNat : Int)) (.int .i64 (I : Int)) (.string (s.extract 6 18)) (.string (s.extract 20 (20 + (sf s 19).toNat))) (.string (s.extract (20 + (sf s 19).toNat) s.size)) R1.out
          have hB5 : Below w.heap.size w (((((w5.setCell ⟨w.heap.size, 0, none⟩ (.int .i64 ((sf s 3).toNat : Int))).setCell ⟨w.heap.size, 1, none⟩ (.int .i64 (I : Int))).setCell ⟨w.heap.size, 2, none⟩ (.string (s.extract 6 18))).setCell ⟨w.heap.size, 3, none⟩ (.string (s.extract 20 (20 + (sf s 19).toNat)))).setCell ⟨w.heap.size, 4, none⟩ (.string (s.extract (20 + (sf s 19).toNat) s.size))).drew := ((((((HB1.out.setCell (Nat.le_refl _) _).setCell (Nat.le_refl _) _).setCell (Nat.le_refl _) _).setCell (Nat.le_refl _) _).setCell (Nat.le_refl _) _)).drew
          have eT : s.extract (20 + (sf s 19).toNat) s.size = s.extract (20 + (sf s 19).toNat) (36 + (sf s 19).toNat) := by rw [HS.out]
          have HT : Hid _ := eT
          generalize (((((w5.setCell ⟨w.heap.size, 0, none⟩ (.int .i64 ((sf s 3).toNat : Int))).setCell ⟨w.heap.size, 1, none⟩ (.int .i64 (I : Int))).setCell ⟨w.heap.size, 2, none⟩ (.string (s.extract 6 18))).setCell ⟨w.heap.size, 3, none⟩ (.string (s.extract 20 (20 + (sf s 19).toNat)))).setCell ⟨w.heap.size, 4, none⟩ (.string (s.extract (20 + (sf s 19).toNat) s.size))).drew = WW at *
          clear eT
          go_wp2
          refine bodyPost_ret (res41 Tryz.results48 _ _ w.heap.size _ _ _ _ _ _ _ rfl rfl rfl hh) rfl ⟨?_, hB5⟩
          unfold refPV
          rw [HB.out, HT.out, ← HI.out]
          rfl
end Go.Proofs.YtgalgjmhdbncbabGreat
