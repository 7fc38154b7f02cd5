import Derived.Test.YtgalgjmhdbncbaaGreatW2
import Derived.Deep.RegionHeld
namespace Go.Proofs.YtgalgjmhdbncbaaGreat
open Go.RowKit
attribute [local go_sem ↓] Go.wp_at_zero Go.wp_at_succ

/-! ### the stores of a script -/
structure Vt where
  gx : Nat
  gr : Nat
  gc : Nat
  S : Sto
  R : RSt
def vtL (vs : List Vt) : List Value := vs.flatMap fun v => [ptr v.gx, ptr v.gr]
structure SS (W : World) (B gw g n : Nat) (sv sr sg sw : Value) (o : OpA) (xs : List Value) : Prop where
  wl : Wld W gw sv sr sg sw
  op : W.heap[g]? = some (.cells (opC o) 54 (0, 0))
  ow : W.ownsRow B 77 2 sv n xs
theorem SS.drew {W : World} {B gw g n : Nat} {sv sr sg sw : Value} {o : OpA} {xs : List Value} (h : SS W B gw g n sv sr sg sw o xs) : SS W.drew B gw g n sv sr sg sw o xs := ⟨h.wl, h.op, h.ow⟩
set_option maxRecDepth 100000 in
set_option maxHeartbeats 4000000 in
theorem step_stored (B gw n gv cap : Nat) (sv sr sg sw : Value) (o : OpA) (xs : List Value) (hv : sv = .slice (some ⟨gv, 0, none⟩) n cap) (hk : 10 < o.kind ∧ o.kind < 20) (hon : -9223372036854775808 ≤ o.on ∧ o.on ≤ 9223372036854775807) (hpos : 0 < n) (hn2 : n ≤ 1152921504606846976)
    (w : World) (hw : Wld w gw sv sr sg sw) (ho : w.ownsRow B 77 2 sv n xs) (Q : World → Prop)
    (hst : ∀ r, r < n → ∀ W, SS W B gw w.heap.size n sv sr sg sw o xs → Fr [] w W → ∃ gx gr, xs[r * 2]? = some (ptr gx) ∧ xs[r * 2 + 1]? = some (ptr gr) ∧ Calls Tryz.prog 29 #[.agg #[ptr gx, ptr gr], .agg (opC o)] W fun e w' => e = .returned (.bool true) ∧ SS w' B gw w.heap.size n sv sr sg sw o xs ∧ Q w') :
    Calls Tryz.prog 14 #[ptr gw, .agg (opC o)] w fun e w' => e = .returned (.bool true) ∧ Q w' := by
  subst hv
  have hlt := hw.lt
  have S0 : SS (w.alloc (.cells (opC o) 54)) B gw w.heap.size n (.slice (some ⟨gv, 0, none⟩) n cap) sr sg sw o xs := ⟨heap_of_old _ _ _ _ hlt hw, heap_of_new _ _ _ rfl, World.ownsRow.alloc ho _⟩
  have F0 : Fr [] w (w.alloc (.cells (opC o) 54)) := (Fr.refl _ _).alloc _
  obtain ⟨c0, c1, c2, c3⟩ := S0.wl.cells
  unfold opC at c0 c1 c2 c3
  have HS : Hid _ := S0
  have HF : Hid _ := F0
  have HT : Hid _ := hst
  clear S0 F0 hst ho
  have k1 : ¬ (o.kind < 10) := by omega
  have k2 : (o.kind == 10) = false := by rw [beq_eq_false_iff_ne]; omega
  have k3 : o.kind < 20 := hk.2
  unfold ptr
  rw [show Value.agg (opC o) = .agg #[.int .i64 o.kind, .int .i64 o.on, .int .i64 o.a, .bool o.yes, .string o.s, .string o.t, .string o.u, .string o.v, .int .i64 o.cs, .int .i64 o.ca, .int .i64 o.cm, .int .i64 o.ra, .int .i64 o.ri, .string o.rn, .string o.rb, .string o.rt] from rfl]
  go_enter Tryz.func14, Tryz.ntmps14
  go_wp2_with fail
  suffices H : ∀ W, SS W B gw w.heap.size n (.slice (some ⟨gv, 0, none⟩) n cap) sr sg sw o xs → Fr [] w W → Code.wp Tryz.prog _ _ _ W from H _ HS.out HF.out
  clear HS HF c0 c1 c2 c3 hw
  intro W S1 F1
  refine wp_region_held_drew (S := fun W' => SS W' B gw w.heap.size n (.slice (some ⟨gv, 0, none⟩) n cap) sr sg sw o xs) (by kernel_rfl) S1.drew (fun hHeld => ?_)
  refine wpAnyH_take (i := 0) (v := ?v1) rfl (by kernel_rfl) (by kernel_rfl) (by kernel_rfl) (fun _ _ _ h => h) (Or.inl ⟨by rfl, ?y1⟩) (by assumption) ?r1
  case y1 => (intro W' hW; go_simp; try with_reducible rfl)
  refine wpAnyH_take (i := 1) (v := ?v2) rfl (by kernel_rfl) (by kernel_rfl) (by kernel_rfl) (fun _ _ _ h => h) (Or.inl ⟨by rfl, ?y2⟩) (by assumption) ?r2
  case y2 => (intro W' hW; go_simp; try with_reducible rfl)
  refine wpAnyH_take (i := 2) (v := ?v3) rfl (by kernel_rfl) (by kernel_rfl) (by kernel_rfl) (fun _ _ _ h => h) (Or.inl ⟨by rfl, ?y3⟩) (by assumption) ?r3
  case y3 => (intro W' hW; go_simp; try with_reducible rfl)
  refine wpAnyH_take (i := 3) (v := ?v4) rfl (by kernel_rfl) (by kernel_rfl) (by kernel_rfl) (fun _ _ _ h => h) (Or.inl ⟨by rfl, ?y4⟩) (by assumption) ?r4
  case y4 => (intro W' hW; obtain ⟨c0, c1, c2, c3⟩ := Wld.cells hW.wl; go_simp; try with_reducible rfl)
  refine wpAnyH_take (i := 4) (v := ?v5) rfl (by kernel_rfl) (by kernel_rfl) (by kernel_rfl) (fun _ _ _ h => h) (Or.inl ⟨by rfl, ?y5⟩) (by assumption) ?r5
  case y5 => (intro W' hW; go_simp; try with_reducible rfl)
  refine wpAnyH_take (i := 5) (v := ?v6) rfl (by kernel_rfl) (by kernel_rfl) (by kernel_rfl) (fun _ _ _ h => h) (Or.inl ⟨by rfl, ?y6⟩) (by assumption) ?r6
  case y6 => (intro W' hW; obtain ⟨z0, z1, z2, z3, z4, z5⟩ := cellsO hW.op; go_simp; try with_reducible rfl)
  refine wpAnyH_take (i := 6) (v := ?v7) rfl (by kernel_rfl) (by kernel_rfl) (by kernel_rfl) (fun _ _ _ h => h) (Or.inl ⟨by rfl, ?y7⟩) (by assumption) ?r7
  case y7 => (intro W' hW; go_simp; try with_reducible rfl)
  refine wpAnyH_take (i := 7) (v := ?v8) rfl (by kernel_rfl) (by kernel_rfl) (by kernel_rfl) (fun _ _ _ h => h) (Or.inl ⟨by rfl, ?y8⟩) (by assumption) ?r8
  case y8 => (intro W' hW; go_simp; try with_reducible rfl)
  refine wpAnyH_take (i := 8) (v := ?v9) rfl (by kernel_rfl) (by kernel_rfl) (by kernel_rfl) (fun _ _ _ h => h) (Or.inl ⟨by rfl, ?y9⟩) (by assumption) ?r9
  case y9 => (intro W' hW; go_simp; try with_reducible rfl)
  refine wpAnyH_take (i := 9) (v := ?v10) rfl (by kernel_rfl) (by kernel_rfl) (by kernel_rfl) (fun _ _ _ h => h) (Or.inl ⟨by rfl, ?y10⟩) (by assumption) ?r10
  case y10 => (intro W' hW; obtain ⟨c0, c1, c2, c3⟩ := Wld.cells hW.wl; go_simp; try with_reducible rfl)
  refine wpAnyH_take (i := 10) (v := ?v11) rfl (by kernel_rfl) (by kernel_rfl) (by kernel_rfl) (fun _ _ _ h => h) (Or.inl ⟨by rfl, ?y11⟩) (by assumption) ?r11
  case y11 => (intro W' hW; go_simp; try with_reducible rfl)
  refine wpAnyH_take (i := 14) (v := ?v12) rfl (by kernel_rfl) (by kernel_rfl) (by kernel_rfl) (fun _ _ _ h => h) (Or.inl ⟨by rfl, ?y12⟩) (by assumption) ?r12
  case y12 => (intro W' hW; obtain ⟨z0, z1, z2, z3, z4, z5, z6, z7, z8, z9, z10, z11, z12, z13, z14, z15⟩ := cellsF hW.op; go_simp; try with_reducible rfl)
  refine wpAnyH_ready (rs := [11]) (by kernel_rfl) (by simp) ?_
  refine AllReadyH.cons rfl (fun K hK => ?_) AllReadyH.nil
  go_simp
  refine (lpick_any o.on n hon.1 hon.2 hpos hn2 _).mono ?_
  rintro e wa ⟨⟨r, hr, rfl⟩, hw⟩
  subst hw
  obtain ⟨gx, gr, e1, e2, hcall⟩ := HT.out r hr _ S1.drew F1.drew
  have E1 : Hid _ := e1
  have E2 : Hid _ := e2
  have HC : Hid _ := hcall
  clear e1 e2 hcall
  go_wp2_with fail
  refine hK.out _ _ hHeld (fun hHeld => ?_)
  clear hK K
  refine wpAnyH_take (i := 12) (v := ?v13) rfl (by kernel_rfl) (by kernel_rfl) (by kernel_rfl) (fun _ _ _ h => h) (Or.inl ⟨by rfl, ?y13⟩) (by assumption) ?r13
  case y13 => (intro W' hW; go_simp; try with_reducible rfl)
  refine wpAnyH_take (i := 13) (v := ?v14) rfl (by kernel_rfl) (by kernel_rfl) (by kernel_rfl) (fun _ _ _ h => h) (Or.inl ⟨by rfl, ?y14⟩) (by assumption) ?r14
  case y14 => (intro W' hW; have he0 := (World.ownsRow.cellAt hW.ow (r * 2) (by omega)).trans E1.out; have he1 := (World.ownsRow.cellAt hW.ow (r * 2 + 1) (by omega)).trans E2.out; go_simp; try with_reducible rfl)
  refine wpAnyH_ready (rs := [15]) (by kernel_rfl) (by simp) ?_
  refine AllReadyH.cons rfl (fun K hK => ?_) AllReadyH.nil
  go_simp
  refine Calls.mono HC.out ?_
  rintro e wb ⟨rfl, hS2, hQ⟩
  go_wp2_with fail
  refine hK.out _ _ hS2 (fun hHeld => ?_)
  clear hK K
  refine wpAnyH_take (i := 16) (v := ?v15) rfl (by kernel_rfl) (by kernel_rfl) (by kernel_rfl) (fun _ _ _ h => h) (Or.inl ⟨by rfl, ?y15⟩) (by assumption) ?r15
  case y15 => (intro W' hW; go_simp; try with_reducible rfl)
  refine wpAnyH_done (by kernel_rfl) ?_ _
  go_wp2
  go_ret
  exact ⟨rfl, hQ⟩
end Go.Proofs.YtgalgjmhdbncbaaGreat
