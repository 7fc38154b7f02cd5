import Derived.Test.YtgalgjmhdbncbaaGreatZu00
import Derived.Test.YtgalgjmhdbncbaaGreatZu16
import Derived.Test.YtgalgjmhdbncbaaGreatZu12
import Derived.Deep.RegionHeld
import Derived.Test.YtgalgjmhdbncbaaGreatZu15
namespace Go.Proofs.YtgalgjmhdbncbaaGreat
open Go.RowKit
attribute [local go_sem ↓] Go.wp_at_zero Go.wp_at_succ
attribute [local go_sem ↓] al87 stw87 bs_wrap
attribute [local go_sem] run_al87 run_stT87 stN_cl blk_new blk_at blk_old blk_drew blk_setCell blk_setRow alloc_setRow

set_option maxRecDepth 100000 in
set_option maxHeartbeats 1000000 in
theorem of_empty (w : World) : Calls Tryz.prog 33 #[.string ⟨#[]⟩] w fun e w' => e = .returned (.tuple #[.agg (clA zCl), .bool true]) ∧ Below w.heap.size w w' := by
  go_enter Tryz.func33, Tryz.ntmps33
  go_wp2
  refine bodyPost_ret (res87 Tryz.results33 _ _ w.heap.size (clA zCl) _ rfl rfl rfl (heap_of_new _ _ _ rfl)) rfl ⟨rfl, ?_⟩
  exact (Below.refl _ w).alloc (Nat.le_refl _) _
set_option maxRecDepth 100000 in
set_option maxHeartbeats 1000000 in
theorem of_short (s : ByteArray) (h0 : s.size ≠ 0) (h : s.size < 15) (w : World) : Calls Tryz.prog 33 #[.string s] w fun e w' => e = .returned (.tuple #[.agg (clA zCl), .bool false]) ∧ Below w.heap.size w w' := by
  have k0 := isEmpty_no h0
  go_enter Tryz.func33, Tryz.ntmps33
  go_wp2
  refine bodyPost_ret (res87 Tryz.results33 _ _ w.heap.size (clA zCl) _ rfl rfl rfl (heap_of_new _ _ _ rfl)) rfl ⟨rfl, ?_⟩
  exact (Below.refl _ w).alloc (Nat.le_refl _) _
theorem kT_list : kT.toList = [107] := by rw [ByteArray.toList_eq]; rfl
theorem mark_ne (s : ByteArray) (h : 15 ≤ s.size) (hk : sf s 0 ≠ 107) : ((s.extract 0 1).toList == [107]) = false := by
  rw [← kT_list]
  apply beq_ne
  intro e
  have e2 : sf (s.extract 0 1) 0 = sf kT 0 := by rw [e]
  rw [sf_cut _ _ _ _ (by omega) (by omega)] at e2
  exact hk e2
theorem mark_eq (s : ByteArray) (h : 15 ≤ s.size) (hk : sf s 0 = 107) : s.extract 0 1 = kT := by
  apply bytes_ext
  · rw [cut_size _ _ _ (by omega)]; rfl
  · intro j hj
    rw [cut_size _ _ _ (by omega)] at hj
    have : j = 0 := by omega
    subst this
    rw [sf_cut _ _ _ _ (by omega) (by omega)]
    exact hk
set_option maxRecDepth 100000 in
set_option maxHeartbeats 1000000 in
theorem of_mark (s : ByteArray) (h : 15 ≤ s.size) (hz : s.size ≤ maxLen) (hk : sf s 0 ≠ 107) (w : World) : Calls Tryz.prog 33 #[.string s] w fun e w' => e = .returned (.tuple #[.agg (clA zCl), .bool false]) ∧ Below w.heap.size w w' := by
  have k0 := isEmpty_no (a := s) (by omega)
  have k1 := mark_ne s h hk
  have HZ : Hid _ := hz
  clear hz hk
  go_enter Tryz.func33, Tryz.ntmps33
  go_wp2
  refine bodyPost_ret (res87 Tryz.results33 _ _ w.heap.size (clA zCl) _ rfl rfl rfl (heap_of_new _ _ _ rfl)) rfl ⟨rfl, ?_⟩
  exact (Below.refl _ w).alloc (Nat.le_refl _) _
def vk (s : ByteArray) (k : Nat) : Nat := valF (sf s) (fA k) (fZ k - fA k)
def rdC (s : ByteArray) (k : Nat) : Cl := ⟨(sf s 14).toNat, if 0 < k then vk s 0 else 0, if 1 < k then vk s 1 else 0, s.extract 4 8, if 2 < k then vk s 2 else 0, if 3 < k then vk s 3 else 0, if 4 < k then vk s 4 else 0, if 5 < k then vk s 5 else 0, s.extract 15 s.size⟩
theorem valF_shift (f : Nat → UInt8) (a : Nat) : ∀ n, valF (fun j => f (a + j)) 0 n = valF f a n
  | 0 => rfl
  | n + 1 => by
    show valF (fun j => f (a + j)) 0 n * 256 + (f (a + (0 + n))).toNat = valF f a n * 256 + (f (a + n)).toNat
    rw [valF_shift f a n, Nat.zero_add]
theorem rd_set (w : World) (g : Nat) (s : ByteArray) (k : Nat) (hk : k < 6) (h : w.heap[g]? = some (.cells (clA (rdC s k)) 87 (0, 0))) : (w.setCell ⟨g, fO k, none⟩ (.int .i64 (vk s k))).heap[g]? = some (.cells (clA (rdC s (k + 1))) 87 (0, 0)) := by
  have h1 := heap_setCell_same w g (fO k) _ 87 (.int .i64 (vk s k)) h
  rw [h1]
  congr 2
  revert k
  refine six ?_ ?_ ?_ ?_ ?_ ?_
  all_goals intros; simp [clA, clC, rdC, fO]
theorem vk_lt (s : ByteArray) (k : Nat) (hk : k < 6) : vk s k < 65536 := by
  have h := valF_lt (sf s) (fA k) (fZ k - fA k)
  obtain ⟨a1, a2, a3⟩ := fA_fZ k hk
  have : (256 : Nat) ^ (fZ k - fA k) ≤ 256 ^ 2 := Nat.pow_le_pow_right (by omega) (by omega)
  have e : (256 : Nat) ^ 2 = 65536 := rfl
  unfold vk
  omega
theorem wrap_sm (n : Nat) (h : n < 9223372036854775808) : IntKind.i64.wrap (n : Int) = (n : Int) := by
  have := wrap_i64_ediv (n : Int) 1 (by omega) (by omega) (by omega)
  rwa [Int.ediv_one] at this
structure OXs (W : World) (g g5 : Nat) (k : Nat) : Prop where
  f3 : W.heap[g5]? = some (.cells #[.pointer (some ⟨g, fO k, none⟩), .int .i64 (fA k), .int .i64 (fZ k)] 137 (0, 0))
theorem OXs.lt {W : World} {g g5 k : Nat} (h : OXs W g g5 k) : g5 < W.heap.size := by
  rcases Nat.lt_or_ge g5 W.heap.size with hlt | hge
  · exact hlt
  · have := h.f3; rw [Array.getElem?_eq_none hge] at this; cases this
theorem OXs.drew {W : World} {g g5 k : Nat} (h : OXs W g g5 k) : OXs W.drew g g5 k := ⟨h.f3⟩
theorem OXs.alloc {W : World} {g g5 k : Nat} (h : OXs W g g5 k) (o : Obj) : OXs (W.alloc o) g g5 k := ⟨heap_of_old _ _ _ _ h.lt h.f3⟩
theorem OXs.set {W : World} {g g5 k j : Nat} {v : Value} (h : OXs W g g5 k) (hne : g5 ≠ g) : OXs (W.setCell ⟨g, j, none⟩ v) g g5 k := ⟨by rw [heap_skip _ _ _ _ _ hne]; exact h.f3⟩
theorem OXs.three {W : World} {g g5 k : Nat} (h : OXs W g g5 k) : W.cell? ⟨g5, 0, none⟩ = some (.pointer (some ⟨g, fO k, none⟩)) ∧ W.cell? ⟨g5, 1, none⟩ = some (.int .i64 (fA k)) ∧ W.cell? ⟨g5, 2, none⟩ = some (.int .i64 (fZ k)) := by
  refine ⟨?_, ?_, ?_⟩
  · rw [cell_of_row _ _ 0 _ _ _ h.f3]; rfl
  · rw [cell_of_row _ _ 1 _ _ _ h.f3]; rfl
  · rw [cell_of_row _ _ 2 _ _ _ h.f3]; rfl
structure CS (W : World) (g : Nat) (c : Cl) : Prop where
  cr : W.heap[g]? = some (.cells #[.int .i64 c.st, .int .i64 c.alg, .int .i64 c.id, .string c.fix, .int .i64 c.seals, .int .i64 c.ahead, .int .i64 c.most, .int .i64 c.res, .string c.key] 87 (0, 0))
theorem CS.drew {W : World} {g : Nat} {c : Cl} (h : CS W g c) : CS W.drew g c := ⟨h.cr⟩
structure LO (w W : World) (s : ByteArray) (k : Nat) : Prop where
  z : W.heap[w.heap.size]? = some (.cells zclA 87 (0, 0))
  cr : W.heap[w.heap.size + 1]? = some (.cells (clA (rdC s k)) 87 (0, 0))
  fl : Row W (w.heap.size + 1 + 1) 18 137 (fldF (w.heap.size + 1))
  bl : Below w.heap.size w W
set_option maxRecDepth 100000 in
set_option maxHeartbeats 4000000 in
theorem of_read (s : ByteArray) (h : 15 ≤ s.size) (hz : s.size ≤ maxLen) (hk : sf s 0 = 107) (b : Bool) (hb : b = true ↔ HoldsC (rdC s 6)) (w : World) : Calls Tryz.prog 33 #[.string s] w fun e w' => e = .returned (.tuple #[.agg (clA (rdC s 6)), .bool b]) ∧ Below w.heap.size w w' := by
  have k0 := isEmpty_no (a := s) (by omega)
  have k1 : ((s.extract 0 1).toList == [107]) = true := by rw [mark_eq s h hk, kT_list]; rfl
  have HZ : Hid _ := hz
  have HB : Hid _ := hb
  have k14 : s[14] = sf s 14 := by
    unfold sf
    show s.data[14] = _
    simp [Array.getElem?_eq_getElem (show 14 < s.data.size from by have : s.data.size = s.size := rfl; omega)]
  have h14 := (sf s 14).toNat_lt
  have hw14 : wrap64 (((sf s 14).toNat : Nat) : Int) = (((sf s 14).toNat : Nat) : Int) := by unfold wrap64; omega
  clear hz hk hb
  go_enter Tryz.func33, Tryz.ntmps33
  go_wp2_with fail
  go_region
  have W3 : (((w.alloc (.cells zclA 87)).alloc (.cells zclA 87)).drew.setRow (w.heap.size + 1) (clC (((sf s 14).toNat : Nat) : Int) 0 0 (s.extract 4 8) 0 0 0 0 (s.extract 15 s.size))).heap[w.heap.size + 1]? = some (.cells (clA (rdC s 0)) 87 (0, 0)) := setRow_heap _ _ _ _ 87 _ (heap_of_new (w.alloc (.cells zclA 87)) (.cells zclA 87) _ (by simp))
  have z3 : (((w.alloc (.cells zclA 87)).alloc (.cells zclA 87)).drew.setRow (w.heap.size + 1) (clC (((sf s 14).toNat : Nat) : Int) 0 0 (s.extract 4 8) 0 0 0 0 (s.extract 15 s.size))).heap[w.heap.size]? = some (.cells zclA 87 (0, 0)) := by
    rw [setRow_other _ _ _ _ (by omega)]; exact heap_of_old (w.alloc (.cells zclA 87)) _ _ _ (by simp) (heap_of_new _ _ _ rfl)
  have B3 : Below w.heap.size w (((w.alloc (.cells zclA 87)).alloc (.cells zclA 87)).drew.setRow (w.heap.size + 1) (clC (((sf s 14).toNat : Nat) : Int) 0 0 (s.extract 4 8) 0 0 0 0 (s.extract 15 s.size))) := Below.setRow ((((Below.refl _ w).alloc (Nat.le_refl _) _).alloc (by simp) _)).drew (by omega) _
  have y3 : (((w.alloc (.cells zclA 87)).alloc (.cells zclA 87)).drew.setRow (w.heap.size + 1) (clC (((sf s 14).toNat : Nat) : Int) 0 0 (s.extract 4 8) 0 0 0 0 (s.extract 15 s.size))).heap.size = w.heap.size + 1 + 1 := by simp
  go_wp2_with fail
  generalize (((w.alloc (.cells zclA 87)).alloc (.cells zclA 87)).drew.setRow (w.heap.size + 1) (clC (((sf s 14).toNat : Nat) : Int) 0 0 (s.extract 4 8) 0 0 0 0 (s.extract 15 s.size))) = W4 at *
  refine (fields_any (w.heap.size + 1) _).mono ?_
  rintro e w5 ⟨rfl, f5, b5⟩
  rw [y3] at f5 b5
  rw [y3]
  have L0 : LO w w5 s 0 := ⟨by rw [b5.block _ (by omega)]; exact z3, by rw [b5.block _ (by omega)]; exact W3, f5, B3.trans (b5.mono (by omega))⟩
  clear W3 z3 B3 y3 f5 b5
  go_wp2_with fail
  go_loopw [6, 29] (fun _ i wr => ∃ k : Nat, k ≤ 6 ∧ i = .int .i64 k ∧ LO w wr s k) (fun _ i _ => 6 - (intOf i).toNat)
  case atStart => exact ⟨0, by omega, rfl, L0⟩
  case round =>
    clear L0
    obtain ⟨k, hk, rfl, hL⟩ := hrel
    by_cases hk6 : k < 6
    · obtain ⟨y0, y1, y2⟩ := fld_at hL.fl k hk6
      obtain ⟨a1, a2, a3⟩ := fA_fZ k hk6
      have hzf := hL.fl.lt
      have X0 : OXs (wr.alloc (.cells #[.pointer (some ⟨w.heap.size + 1, fO k, none⟩), .int .i64 (fA k), .int .i64 (fZ k)] 137)) (w.heap.size + 1) wr.heap.size k := ⟨heap_of_new _ _ _ rfl⟩
      have i1 : ((fZ k : Nat) : Int) ≤ (s.size : Int) := by omega
      have i2 : fA k ≤ fZ k := by omega
      have hpz : (s.extract (fA k) (fZ k)).size = fZ k - fA k := cut_size _ _ _ (by omega)
      have hpc : ∀ j, j < fZ k - fA k → sf (s.extract (fA k) (fZ k)) j = sf s (fA k + j) := fun j hj => sf_cut _ _ _ _ (by omega) (by omega)
      have hvk : valF (fun j => sf s (fA k + j)) 0 (fZ k - fA k) = vk s k := valF_shift (sf s) (fA k) _
      have HPC : Hid _ := hpc
      have HPZ : Hid _ := hpz
      have HVK : Hid _ := hvk
      clear hpc hpz hvk
      go_wp2_with fail
      suffices H : ∀ W, OXs W (w.heap.size + 1) wr.heap.size k → LO w W s k → Code.wp Tryz.prog _ _ _ W from H _ X0 ⟨heap_of_old _ _ _ _ (by omega) hL.z, heap_of_old _ _ _ _ (by omega) hL.cr, hL.fl.alloc _, hL.bl.alloc (by omega) _⟩
      clear X0 hL y0 y1 y2
      intro W hX hL
      have hgl : w.heap.size + 1 < W.heap.size := by
        have := Row.lt hL.fl
        omega
      have hvl := vk_lt s k hk6
      have hw1 : IntKind.i64.wrap ((vk s k : Nat) : Int) = ((vk s k : Nat) : Int) := wrap_sm _ (by omega)
      have HL : Hid _ := hL
      clear hL
      refine wp_region_held_drew (S := fun W' => OXs W' (w.heap.size + 1) wr.heap.size k) (by kernel_rfl) hX.drew (fun hHeld => ?_)
      refine tp 0 _ ?r1
      refine nz ?_
      refine tk 1 ?v2 ?y2 ?r2
      case y2 => (intro W' hW; obtain ⟨y0, y1, y2⟩ := hW.three; go_simp; try with_reducible rfl)
      refine nz ?_
      refine tp 2 _ ?r3
      refine nz ?_
      refine tp 3 _ ?r4
      refine nz ?_
      refine tk 4 ?v5 ?y5 ?r5
      case y5 => (intro W' hW; obtain ⟨y0, y1, y2⟩ := hW.three; go_simp; try with_reducible rfl)
      refine nz ?_
      refine tp 5 _ ?r6
      refine nz ?_
      refine tk 6 ?v7 ?y7 ?r7
      case y7 => (intro W' hW; obtain ⟨y0, y1, y2⟩ := hW.three; go_simp; try with_reducible rfl)
      refine nz ?_
      refine tp 7 _ ?r8
      refine nz ?_
      refine wpAnyH_ready (rs := [8]) (by kernel_rfl) (by simp) ?_
      refine AllReadyH.cons rfl (fun K hK => ?_) ?nil8
      case nil8 => exact AllReadyH.nil
      obtain ⟨cap, o, hcap, hrun, hBy⟩ := bs_run (s.extract (fA k) (fZ k)) W.drew
      replace hrun : Sem.run Tryz.prog (Bs (.string (s.extract (fA k) (fZ k)))) W.drew = _ := hrun
      rw [HPZ.out] at hrun hBy hcap
      have HBy : Hid _ := hBy
      clear hBy
      go_simp
      refine hK.out _ _ (OXs.alloc (OXs.drew hHeld) o) (fun hHeld => ?_)
      clear hK K
      refine wpAnyH_ready (rs := [9]) (by kernel_rfl) (by simp) ?_
      refine AllReadyH.cons rfl (fun K hK => ?_) ?nil9
      case nil9 => exact AllReadyH.nil
      go_simp
      refine (nof_cells W.heap.size 0 (fZ k - fA k) cap (fun j => sf s (fA k + j)) (by omega) hcap _ (fun j hj => by have := (HBy.out.2 j hj).1; rw [HPC.out j hj] at this; rw [Nat.zero_add]; exact this)).mono ?_
      rintro e wa ⟨rfl, hw⟩
      subst hw
      go_wp2_with fail
      refine hK.out _ _ hHeld (fun hHeld => ?_)
      clear hK K
      rw [HVK.out]
      refine tp 10 _ ?r9
      refine nz ?_
      refine tp 11 _ ?r10
      refine nz ?_
      refine wpAnyH_ready (rs := [12]) (by kernel_rfl) (by simp) ?_
      refine AllReadyH.cons rfl (fun K hK => ?_) ?nil12
      case nil12 => exact AllReadyH.nil
      have hcr : (W.alloc o).drew.drew.heap[w.heap.size + 1]? = some (.cells (clA (rdC s k)) 87 (0, 0)) := heap_of_old W _ _ _ hgl HL.out.cr
      have hc0 := cv_at hcr k hk6
      have hf0 := frozen_of_row _ _ (fO k) _ _ hcr
      go_simp
      refine hK.out _ _ (OXs.drew (OXs.drew (OXs.alloc (OXs.set hX (by omega)) o))) (fun hHeld => ?_)
      clear hK K
      refine wpAnyH_done (by kernel_rfl) ?_ _
      have hL2 : LO w ((W.setCell ⟨w.heap.size + 1, fO k, none⟩ (.int .i64 (vk s k))).alloc o).drew.drew s (k + 1) := by
        have hL := HL.out
        refine ⟨heap_of_old (W.setCell ⟨w.heap.size + 1, fO k, none⟩ (.int .i64 (vk s k))) o _ _ (by simp; omega) ?_, heap_of_old (W.setCell ⟨w.heap.size + 1, fO k, none⟩ (.int .i64 (vk s k))) o _ _ (by simp; omega) (rd_set W _ s k hk6 hL.cr), Row.alloc (Row.other hL.fl (by omega)) o, ((Below.setCell hL.bl (by dsimp only; omega) _).alloc (by have := hL.bl.size; simp; omega) o).drew.drew⟩
        rw [heap_skip _ _ _ _ _ (by omega)]; exact hL.z
      clear hHeld hX HL HBy hcr hc0 hf0 hrun
      go_wp2
      exact ⟨⟨k + 1, by omega, by go_num, hL2⟩, by simp [intOf]; omega⟩
    · have : k = 6 := by omega
      subst this
      have hL2 := hL
      have hcr := hL.cr
      have hzr := hL.z
      have hkz : (rdC s 6).key.size ≤ maxLen := by
        show (s.extract 15 s.size).size ≤ _
        rw [cut_size _ _ _ (by omega)]
        have := HZ.out
        omega
      have hh := fun W => holds_any (rdC s 6) b HB.out hkz W
      unfold clA clC at hh hcr
      have HH : Hid _ := hh
      clear hh hkz hL
      have hBl := hL2.bl
      have hlt2 := Row.lt hL2.fl
      have hX : CS wr (w.heap.size + 1) (rdC s 6) := ⟨hcr⟩
      clear hL2 hcr
      go_wp2_with fail
      refine wp_region_held_drew (S := fun W' => CS W' (w.heap.size + 1) (rdC s 6)) (by kernel_rfl) hX.drew (fun hHeld => ?_)
      refine tk 0 ?v51 ?y51 ?r51
      case y51 => (intro W' hW; obtain ⟨c0, c1, c2, c3, c4, c5, c6, c7, c8⟩ := cells9 hW.cr; go_simp; try with_reducible rfl)
      refine nz ?_
      refine tk 1 ?v52 ?y52 ?r52
      case y52 => (intro W' hW; obtain ⟨c0, c1, c2, c3, c4, c5, c6, c7, c8⟩ := cells9 hW.cr; go_simp; try with_reducible rfl)
      refine nz ?_
      refine wpAnyH_ready (rs := [2]) (by kernel_rfl) (by simp) ?_
      refine AllReadyH.cons rfl (fun K hK => ?_) ?nil2
      case nil2 => exact AllReadyH.nil
      go_simp
      refine (HH.out _).mono ?_
      rintro e wa ⟨rfl, ba⟩
      have hza : wa.heap[w.heap.size]? = some (.cells zclA 87 (0, 0)) := by rw [ba.block _ (by show _ < wr.heap.size; omega)]; exact hzr
      have qa : blk wa w.heap.size = some (.cells zclA 87 (0, 0)) := hza
      have Ba : Below w.heap.size w wa := hBl.drew.trans (ba.mono (by show _ ≤ wr.heap.size; omega))
      have hXa : CS wa (w.heap.size + 1) (rdC s 6) := ⟨by rw [ba.block _ (by show _ < wr.heap.size; omega)]; exact hX.cr⟩
      go_wp2_with fail
      refine hK.out _ _ hXa (fun hHeld => ?_)
      clear hK K
      refine wpAnyH_ready (rs := [3]) (by kernel_rfl) (by simp) ?_
      refine AllReadyH.cons rfl (fun K hK => ?_) ?nil3
      case nil3 => exact AllReadyH.nil
      go_simp
      refine hK.out _ _ ⟨by rw [setRow_other _ _ _ _ (by omega)]; exact hXa.cr⟩ (fun hHeld => ?_)
      clear hK K
      refine tp 4 _ ?r53
      refine nz ?_
      refine wpAnyH_done (by kernel_rfl) ?_ _
      go_wp2
      refine bodyPost_ret (res87 Tryz.results33 _ _ w.heap.size (clA (rdC s 6)) _ rfl rfl rfl (setRow_heap _ _ _ _ 87 _ hza)) rfl ⟨rfl, ?_⟩
      exact Below.setRow Ba (Nat.le_refl _) _
end Go.Proofs.YtgalgjmhdbncbaaGreat
namespace Go.Proofs.YtgalgjmhdbncbaaGreat
open Go.RowKit
attribute [local go_sem ↓] Go.wp_at_zero Go.wp_at_succ

structure Hd where
  c : Cl
  ctr : Nat
def clF (c : Cl) : Nat → Value | 0 => .int .i64 c.st | 1 => .int .i64 c.alg | 2 => .int .i64 c.id | 3 => .string c.fix | 4 => .int .i64 c.seals | 5 => .int .i64 c.ahead | 6 => .int .i64 c.most | 7 => .int .i64 c.res | _ => .string c.key
def hdF (h : Hd) (j : Nat) : Value := if j = 9 then .int .i64 h.ctr else clF h.c j
def tabF (sx : Nat) (H : Nat → Hd) (j : Nat) : Value := if j = 0 then ptr sx else hdF (H ((j - 1) / 10)) ((j - 1) % 10)
def TabP (w : World) (g sx : Nat) (H : Nat → Hd) : Prop := Row w g 81 92 (tabF sx H)
theorem TabP.sto {w : World} {g sx : Nat} {H : Nat → Hd} (h : TabP w g sx H) : w.cell? ⟨g, 0, none⟩ = some (ptr sx) := by rw [Row.cell h 0 (by omega)]; rfl
theorem TabP.at {w : World} {g sx : Nat} {H : Nat → Hd} (h : TabP w g sx H) (i j : Nat) (hi : i < 8) (hj : j < 10) : w.cell? ⟨g, 1 + i * 10 + j, none⟩ = some (hdF (H i) j) := by
  rw [Row.cell h _ (by omega)]
  unfold tabF
  rw [if_neg (by omega), show (1 + i * 10 + j - 1) / 10 = i by omega, show (1 + i * 10 + j - 1) % 10 = j by omega]
theorem arr9 (c : Cl) : arr 9 (clF c) = clA c := rfl
def zhdA : Array Value := #[.int .i64 0, .int .i64 0, .int .i64 0, .string ⟨#[]⟩, .int .i64 0, .int .i64 0, .int .i64 0, .int .i64 0, .string ⟨#[]⟩, .int .i64 0]
def hdA (h : Hd) : Array Value := #[.int .i64 h.c.st, .int .i64 h.c.alg, .int .i64 h.c.id, .string h.c.fix, .int .i64 h.c.seals, .int .i64 h.c.ahead, .int .i64 h.c.most, .int .i64 h.c.res, .string h.c.key, .int .i64 h.ctr]
theorem al89 : Instr.alloc 89 true (.tuple #[]) = Al 89 := rfl
theorem run_al89 (w : World) : Sem.run Tryz.prog (Al 89) w = .ok (.pointer (some ⟨w.heap.size, 0, none⟩)) (w.alloc (.cells zhdA 89)) := by kernel_rfl
theorem stw89 (p v : Value) : Instr.storeAt 89 p v = StT 89 p v := rfl
theorem run_stT89 (g : Nat) (v : Value) (w : World) : Sem.run Tryz.prog (StT 89 (.pointer (some ⟨g, 0, none⟩)) v) w = stN (blk w g) 10 v g w (stO Tryz.prog 89 v g w) := run_stT 89 10 (by kernel_rfl) g v w
theorem stN_hd (h : Hd) (g : Nat) (w : World) (r : Result Unit) : stN (some (.cells zhdA 89 (0, 0))) 10 (.agg (hdA h)) g w r = .ok () (w.setRow g (hdA h)) := by
  unfold stN hdA
  exact if_pos ⟨rfl, rfl, rfl, by simp [Value.oneCell']⟩
theorem ldw90 (v : Value) : Instr.loadAt 90 v = LdT 90 v := rfl
theorem run_ldT90 (g off : Nat) (w : World) : Sem.run Tryz.prog (LdT 90 (.pointer (some ⟨g, off, none⟩))) w = ldN (blk w g) off 80 w (ldO Tryz.prog 90 g off w) := run_ldT 90 80 _ Tryz.underlying90 rfl (by kernel_rfl) g off w
theorem ldN_tab (sx : Nat) (H : Nat → Hd) (w : World) (r : Result Value) : ldN (some (.cells (arr 81 (tabF sx H)) 92 (0, 0))) 1 80 w r = .ok (.agg (arr 80 fun j => tabF sx H (1 + j))) w := ldN_mid 81 (tabF sx H) 92 1 80 w r (by omega)
theorem ix90 (sx : Nat) (H : Nat → Hd) (w : World) : ∀ k : Nat, k < 8 → (Instr.index 90 (.agg (arr 80 fun j => tabF sx H (1 + j))) (.int .i64 (k : Int))).run Tryz.prog w = .ok (.agg (hdA (H k))) w
  | 0, _ => by kernel_rfl
  | 1, _ => by kernel_rfl
  | 2, _ => by kernel_rfl
  | 3, _ => by kernel_rfl
  | 4, _ => by kernel_rfl
  | 5, _ => by kernel_rfl
  | 6, _ => by kernel_rfl
  | 7, _ => by kernel_rfl
  | n + 8, h => absurd h (by omega)
attribute [local go_sem ↓] al89 stw89 ldw90
attribute [local go_sem] run_al89 run_stT89 stN_hd run_ldT90 ldN_tab blk_new blk_at blk_old blk_drew blk_setCell blk_setRow alloc_setRow

def hit (H : Nat → Hd) (id : Int) (i : Nat) : Prop := (H i).c.st ≠ 0 ∧ ((H i).c.id : Int) = id
theorem cells10 {w : World} {g : Nat} {h : Hd} (hh : w.heap[g]? = some (.cells (hdA h) 89 (0, 0))) : w.cell? ⟨g, 0, none⟩ = some (.int .i64 h.c.st) ∧ w.cell? ⟨g, 2, none⟩ = some (.int .i64 h.c.id) := by
  refine ⟨?_, ?_⟩
  · rw [cell_of_row _ _ 0 _ _ _ hh]; rfl
  · rw [cell_of_row _ _ 2 _ _ _ hh]; rfl
set_option maxRecDepth 100000 in
set_option maxHeartbeats 4000000 in
theorem find_any (g sx : Nat) (H : Nat → Hd) (id : Int) (w : World) (h : TabP w g sx H) :
    Calls Tryz.prog 52 #[ptr g, .int .i64 id] w fun e w' => ((∃ i : Nat, i < 8 ∧ hit H id i ∧ (∀ j, j < i → ¬ hit H id j) ∧ e = .returned (.tuple #[.int .i64 i, .bool true])) ∨ ((∀ j, j < 8 → ¬ hit H id j) ∧ e = .returned (.tuple #[.int .i64 0, .bool false]))) ∧ Below w.heap.size w w' := by
  have q := heap_pos h
  unfold ptr
  go_enter Tryz.func52, Tryz.ntmps52
  go_wp2
  go_loopw [6, 7, 12] (fun _ _ i wr => ∃ k : Nat, k ≤ 8 ∧ i = .int .i64 k ∧ (∀ j, j < k → ¬ hit H id j) ∧ Below w.heap.size w wr) (fun _ _ i _ => 8 - (intOf i).toNat)
  case atStart => exact ⟨0, by omega, rfl, fun j hj => by omega, Below.refl _ _⟩
  case round =>
    obtain ⟨k, hk, rfl, hn, hB⟩ := hrel
    by_cases hk8 : k < 8
    · have ix := fun w => ix90 sx H w k hk8
      have r1 : (wr.alloc (.cells (hdA (H k)) 89)).heap[wr.heap.size]? = some (.cells (hdA (H k)) 89 (0, 0)) := heap_of_new _ _ _ rfl
      obtain ⟨c0, c2⟩ := cells10 r1
      have B2 := hB.alloc hB.size (.cells (hdA (H k)) 89)
      by_cases h0 : (H k).c.st = 0
      · have e0 : (((H k).c.st : Int) == 0) = true := by rw [beq_iff_eq]; omega
        have hn2 : ∀ j, j < k + 1 → ¬ hit H id j := fun j hj hh => by
          by_cases e : j = k
          · subst e; exact hh.1 h0
          · exact hn j (by omega) hh
        have HN : Hid _ := hn2
        clear hn hn2
        go_wp2
        exact ⟨⟨k + 1, by omega, by go_num, HN.out, B2⟩, by simp [intOf]; omega⟩
      · have e0 : (((H k).c.st : Int) == 0) = false := by rw [beq_eq_false_iff_ne]; omega
        by_cases hid : ((H k).c.id : Int) = id
        · have e1 : (((H k).c.id : Int) == id) = true := by rw [beq_iff_eq]; exact hid
          have HH : Hid (hit H id k) := ⟨h0, hid⟩
          have HN : Hid _ := hn
          clear hn
          go_wp2
          go_ret2
          exact ⟨.inl ⟨k, hk8, HH.out, HN.out, rfl⟩, B2⟩
        · have e1 : (((H k).c.id : Int) == id) = false := by rw [beq_eq_false_iff_ne]; exact hid
          have hn2 : ∀ j, j < k + 1 → ¬ hit H id j := fun j hj hh => by
            by_cases e : j = k
            · subst e; exact hid hh.2
            · exact hn j (by omega) hh
          have HN : Hid _ := hn2
          clear hn hn2
          go_wp2
          exact ⟨⟨k + 1, by omega, by go_num, HN.out, B2⟩, by simp [intOf]; omega⟩
    · have : k = 8 := by omega
      subst this
      have HN : Hid _ := hn
      clear hn
      go_wp2
      go_ret2
      exact ⟨.inr ⟨HN.out, rfl⟩, hB⟩
end Go.Proofs.YtgalgjmhdbncbaaGreat
