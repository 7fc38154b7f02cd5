import Derived.Test.YtgalgjmhdbncbaaQ4
import Derived.Test.YtgalgjmhdbncbaaR11
import Derived.Deep.RegionHeld
namespace Go.Proofs.Ytgalgjmhdbncbaa
open Go.RowKit
attribute [local go_sem ↓] Go.wp_at_zero Go.wp_at_succ

/-! ### the reference's Encode -/
structure SR (w0 w : World) (n0 : Nat) (a i : Int) (n b t : ByteArray) : Prop where
  rc : w.heap[n0]? = some (.cells (recA a i n b t) 41 (0, 0))
  l : n0 < w.heap.size
  bl : Below n0 w0 w
theorem SR.keep {w0 w w1 : World} {n0 : Nat} {a i : Int} {n b t : ByteArray} (h : SR w0 w n0 a i n b t) (hb : Below w.heap.size w w1) : SR w0 w1 n0 a i n b t :=
  ⟨by rw [hb.block n0 h.l]; exact h.rc, Nat.lt_of_lt_of_le h.l hb.size, h.bl.trans (hb.mono (Nat.le_of_lt h.l))⟩
theorem SR.drew {w0 w : World} {n0 : Nat} {a i : Int} {n b t : ByteArray} (h : SR w0 w n0 a i n b t) : SR w0 w.drew n0 a i n b t := ⟨h.rc, h.l, h.bl.drew⟩
theorem SR.cell {w0 w : World} {n0 : Nat} {a i : Int} {n b t : ByteArray} (h : SR w0 w n0 a i n b t) :
    w.cell? ⟨n0, 0, none⟩ = some (.int .i64 a) ∧ w.cell? ⟨n0, 1, none⟩ = some (.int .i64 i) ∧ w.cell? ⟨n0, 2, none⟩ = some (.string n) ∧ w.cell? ⟨n0, 3, none⟩ = some (.string b) ∧ w.cell? ⟨n0, 4, none⟩ = some (.string t) := by
  refine ⟨?_, ?_, ?_, ?_, ?_⟩
  · rw [cell_of_row _ _ 0 _ _ _ h.rc]; rfl
  · rw [cell_of_row _ _ 1 _ _ _ h.rc]; rfl
  · rw [cell_of_row _ _ 2 _ _ _ h.rc]; rfl
  · rw [cell_of_row _ _ 3 _ _ _ h.rc]; rfl
  · rw [cell_of_row _ _ 4 _ _ _ h.rc]; rfl
def markC : ByteArray := ⟨#[99, 103]⟩
set_option maxRecDepth 100000 in
set_option maxHeartbeats 4000000 in
theorem refEncode_yes (A I : Nat) (n b t : ByteArray) (hA1 : 1 ≤ A) (hA3 : A ≤ 3) (hI : I ≤ 65535) (hn : n.size = 12) (hb : b.size ≤ 200) (ht : t.size = 16) (w : World) :
    Calls Try.prog 51 #[recV A I n b t] w fun e w' => e = .returned (.tuple #[.string (encT A I n b t), .int .i64 0]) ∧ Below w.heap.size w w' := by
  have HE : Hid (markC ++ numT 1 1 ++ numT A 1 ++ numT I 2 ++ n ++ numT b.size 2 ++ b ++ t = encT A I n b t) := encT_cat A I n b t hn ht
  have c3 : ((n.size : Int) != 12) = false := by rw [hn]; rfl
  have c5 : ((t.size : Int) != 16) = false := by rw [ht]; rfl
  have hn12 : n.size ≤ 12 := by omega
  have ht16 : t.size ≤ 16 := by omega
  have z1 := numT_size 1 1
  have z2 := numT_size A 1
  have z3 := numT_size I 2
  have z4 := numT_size b.size 2
  clear hn ht
  unfold recV
  go_enter Try.func51, Try.ntmps51
  go_wp2_with fail
  have S0 : SR w (w.alloc (.cells (recA A I n b t) 41)) w.heap.size A I n b t := ⟨heap_of_new _ _ _ rfl, by simp, (Below.refl _ w).alloc (Nat.le_refl _) _⟩
  refine wp_region_held_drew (S := fun W => SR w W w.heap.size A I n b t) (by kernel_rfl) S0.drew (fun hHeld => ?_)
  refine wpAnyH_take (i := 2) (v := ?v1) rfl (by kernel_rfl) (by kernel_rfl) (by kernel_rfl) (fun _ _ _ h => h) (Or.inl ⟨by rfl, ?y1⟩) (by assumption) ?r1
  case y1 => (intro W hW; go_simp; try with_reducible rfl)
  refine wpAnyH_take (i := 3) (v := ?v2) rfl (by kernel_rfl) (by kernel_rfl) (by kernel_rfl) (fun _ _ _ h => h) (Or.inl ⟨by rfl, ?y2⟩) (by assumption) ?r2
  case y2 => (intro W hW; obtain ⟨d0, d1, d2, d3, d4⟩ := SR.cell hW; go_simp; try with_reducible rfl)
  refine wpAnyH_take (i := 6) (v := ?v3) rfl (by kernel_rfl) (by kernel_rfl) (by kernel_rfl) (fun _ _ _ h => h) (Or.inl ⟨by rfl, ?y3⟩) (by assumption) ?r3
  case y3 => (intro W hW; go_simp; try with_reducible rfl)
  refine wpAnyH_take (i := 7) (v := ?v4) rfl (by kernel_rfl) (by kernel_rfl) (by kernel_rfl) (fun _ _ _ h => h) (Or.inl ⟨by rfl, ?y4⟩) (by assumption) ?r4
  case y4 => (intro W hW; obtain ⟨d0, d1, d2, d3, d4⟩ := SR.cell hW; go_simp; try with_reducible rfl)
  refine wpAnyH_take (i := 10) (v := ?v5) rfl (by kernel_rfl) (by kernel_rfl) (by kernel_rfl) (fun _ _ _ h => h) (Or.inl ⟨by rfl, ?y5⟩) (by assumption) ?r5
  case y5 => (intro W hW; go_simp; try with_reducible rfl)
  refine wpAnyH_take (i := 11) (v := ?v6) rfl (by kernel_rfl) (by kernel_rfl) (by kernel_rfl) (fun _ _ _ h => h) (Or.inl ⟨by rfl, ?y6⟩) (by assumption) ?r6
  case y6 => (intro W hW; obtain ⟨d0, d1, d2, d3, d4⟩ := SR.cell hW; go_simp; try with_reducible rfl)
  refine wpAnyH_take (i := 13) (v := ?v7) rfl (by kernel_rfl) (by kernel_rfl) (by kernel_rfl) (fun _ _ _ h => h) (Or.inl ⟨by rfl, ?y7⟩) (by assumption) ?r7
  case y7 => (intro W hW; go_simp; try with_reducible rfl)
  refine wpAnyH_take (i := 14) (v := ?v8) rfl (by kernel_rfl) (by kernel_rfl) (by kernel_rfl) (fun _ _ _ h => h) (Or.inl ⟨by rfl, ?y8⟩) (by assumption) ?r8
  case y8 => (intro W hW; obtain ⟨d0, d1, d2, d3, d4⟩ := SR.cell hW; go_simp; try with_reducible rfl)
  refine wpAnyH_take (i := 15) (v := ?v9) rfl (by kernel_rfl) (by kernel_rfl) (by kernel_rfl) (fun _ _ _ h => h) (Or.inl ⟨by rfl, ?y9⟩) (by assumption) ?r9
  case y9 => (intro W hW; go_simp; try with_reducible rfl)
  refine wpAnyH_take (i := 18) (v := ?v10) rfl (by kernel_rfl) (by kernel_rfl) (by kernel_rfl) (fun _ _ _ h => h) (Or.inl ⟨by rfl, ?y10⟩) (by assumption) ?r10
  case y10 => (intro W hW; go_simp; try with_reducible rfl)
  refine wpAnyH_take (i := 19) (v := ?v11) rfl (by kernel_rfl) (by kernel_rfl) (by kernel_rfl) (fun _ _ _ h => h) (Or.inl ⟨by rfl, ?y11⟩) (by assumption) ?r11
  case y11 => (intro W hW; obtain ⟨d0, d1, d2, d3, d4⟩ := SR.cell hW; go_simp; try with_reducible rfl)
  refine wpAnyH_take (i := 21) (v := ?v12) rfl (by kernel_rfl) (by kernel_rfl) (by kernel_rfl) (fun _ _ _ h => h) (Or.inl ⟨by rfl, ?y12⟩) (by assumption) ?r12
  case y12 => (intro W hW; go_simp; try with_reducible rfl)
  refine wpAnyH_take (i := 22) (v := ?v13) rfl (by kernel_rfl) (by kernel_rfl) (by kernel_rfl) (fun _ _ _ h => h) (Or.inl ⟨by rfl, ?y13⟩) (by assumption) ?r13
  case y13 => (intro W hW; obtain ⟨d0, d1, d2, d3, d4⟩ := SR.cell hW; go_simp; try with_reducible rfl)
  refine wpAnyH_ready (rs := [0]) (by kernel_rfl) (by simp) ?_
  refine AllReadyH.cons rfl (fun K hK => ?_) AllReadyH.nil
  go_simp
  refine (number_int 1 1 _ _ rfl rfl (by omega) (by omega) _).mono ?_
  rintro e wa ⟨rfl, ba⟩
  have S2 := SR.keep hHeld ba
  clear ba hHeld
  go_wp2_with fail
  refine hK.out _ _ S2 (fun hHeld => ?_)
  clear hK K
  clear S2
  refine wpAnyH_take (i := 1) (v := ?v14) rfl (by kernel_rfl) (by kernel_rfl) (by kernel_rfl) (fun _ _ _ h => h) (Or.inl ⟨by rfl, ?y14⟩) (by assumption) ?r14
  case y14 => (intro W hW; go_simp; first | (with_reducible rfl) | rw [if_neg (by omega)])
  refine wpAnyH_ready (rs := [4]) (by kernel_rfl) (by simp) ?_
  refine AllReadyH.cons rfl (fun K hK => ?_) AllReadyH.nil
  go_simp
  refine (number_int A 1 _ _ rfl rfl (by omega) (by omega) _).mono ?_
  rintro e wa ⟨rfl, ba⟩
  have S2 := SR.keep hHeld ba
  clear ba hHeld
  go_wp2_with fail
  refine hK.out _ _ S2 (fun hHeld => ?_)
  clear hK K
  clear S2
  refine wpAnyH_take (i := 5) (v := ?v15) rfl (by kernel_rfl) (by kernel_rfl) (by kernel_rfl) (fun _ _ _ h => h) (Or.inl ⟨by rfl, ?y15⟩) (by assumption) ?r15
  case y15 => (intro W hW; go_simp; first | (with_reducible rfl) | rw [if_neg (by omega)])
  refine wpAnyH_ready (rs := [8]) (by kernel_rfl) (by simp) ?_
  refine AllReadyH.cons rfl (fun K hK => ?_) AllReadyH.nil
  go_simp
  refine (number_int I 2 _ _ rfl rfl (by omega) (by omega) _).mono ?_
  rintro e wa ⟨rfl, ba⟩
  have S2 := SR.keep hHeld ba
  clear ba hHeld
  go_wp2_with fail
  refine hK.out _ _ S2 (fun hHeld => ?_)
  clear hK K
  clear S2
  refine wpAnyH_take (i := 9) (v := ?v16) rfl (by kernel_rfl) (by kernel_rfl) (by kernel_rfl) (fun _ _ _ h => h) (Or.inl ⟨by rfl, ?y16⟩) (by assumption) ?r16
  case y16 => (intro W hW; go_simp; first | (with_reducible rfl) | rw [if_neg (by omega)])
  refine wpAnyH_take (i := 12) (v := ?v17) rfl (by kernel_rfl) (by kernel_rfl) (by kernel_rfl) (fun _ _ _ h => h) (Or.inl ⟨by rfl, ?y17⟩) (by assumption) ?r17
  case y17 => (intro W hW; go_simp; first | (with_reducible rfl) | rw [if_neg (by omega)])
  refine wpAnyH_ready (rs := [16]) (by kernel_rfl) (by simp) ?_
  refine AllReadyH.cons rfl (fun K hK => ?_) AllReadyH.nil
  go_simp
  refine (number_int b.size 2 _ _ rfl rfl (by omega) (by omega) _).mono ?_
  rintro e wa ⟨rfl, ba⟩
  have S2 := SR.keep hHeld ba
  clear ba hHeld
  go_wp2_with fail
  refine hK.out _ _ S2 (fun hHeld => ?_)
  clear hK K
  clear S2
  refine wpAnyH_take (i := 17) (v := ?v18) rfl (by kernel_rfl) (by kernel_rfl) (by kernel_rfl) (fun _ _ _ h => h) (Or.inl ⟨by rfl, ?y18⟩) (by assumption) ?r18
  case y18 => (intro W hW; go_simp; first | (with_reducible rfl) | rw [if_neg (by omega)])
  refine wpAnyH_take (i := 20) (v := ?v19) rfl (by kernel_rfl) (by kernel_rfl) (by kernel_rfl) (fun _ _ _ h => h) (Or.inl ⟨by rfl, ?y19⟩) (by assumption) ?r19
  case y19 => (intro W hW; go_simp; first | (with_reducible rfl) | rw [if_neg (by omega)])
  refine wpAnyH_take (i := 23) (v := ?v20) rfl (by kernel_rfl) (by kernel_rfl) (by kernel_rfl) (fun _ _ _ h => h) (Or.inl ⟨by rfl, ?y20⟩) (by assumption) ?r20
  case y20 => (intro W hW; go_simp; first | (with_reducible rfl) | rw [if_neg (by omega)])
  refine wpAnyH_take (i := 24) (v := ?v21) rfl (by kernel_rfl) (by kernel_rfl) (by kernel_rfl) (fun _ _ _ h => h) (Or.inl ⟨by rfl, ?y21⟩) (by assumption) ?r21
  case y21 => (intro W hW; go_simp; try with_reducible rfl)
  refine wpAnyH_take (i := 25) (v := ?v22) rfl (by kernel_rfl) (by kernel_rfl) (by kernel_rfl) (fun _ _ _ h => h) (Or.inl ⟨by rfl, ?y22⟩) (by assumption) ?r22
  case y22 => (intro W hW; go_simp; try with_reducible rfl)
  refine wpAnyH_done (by kernel_rfl) ?_ _
  go_wp2
  go_ret2
  exact ⟨by rw [← HE.out]; rfl, SR.bl hHeld⟩
end Go.Proofs.Ytgalgjmhdbncbaa
