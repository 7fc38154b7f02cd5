import Derived.Test.YtgalgjmhdbncbaaGreatZt00
import Derived.Test.YtgalgjmhdbncbaaGreatZt13
import Derived.Test.YtgalgjmhdbncbaaGreatZt14
namespace Go.Proofs.YtgalgjmhdbncbaaGreat
open Go.RowKit
attribute [local go_sem ↓] Go.wp_at_zero Go.wp_at_succ
theorem ldw173 (v : Value) : Instr.loadAt 173 v = LdT 173 v := rfl
theorem run_ldT173 (g off : Nat) (w : World) : Sem.run Tryz.prog (LdT 173 (.pointer (some ⟨g, off, none⟩))) w = ldN (blk w g) off 11 w (ldO Tryz.prog 173 g off w) := run_ldT 173 11 _ Tryz.underlying173 rfl (by kernel_rfl) g off w
theorem ldN_rh (v0 v1 v2 v3 v4 v5 v6 v7 v8 v9 v10 : Value) (w : World) (r : Result Value) : ldN (some (.cells #[v0, v1, v2, v3, v4, v5, v6, v7, v8, v9, v10] 173 (0, 0))) 0 11 w r = .ok (.agg #[v0, v1, v2, v3, v4, v5, v6, v7, v8, v9, v10]) w := by
  unfold ldN
  exact if_pos ⟨rfl, Nat.le_refl _⟩
theorem res173 {fn : Func} {p u : Tmp} (h : fn.results = #[.cell p 173, .tmp u]) (tmps : Array Value) (w : World) (g : Nat) (cs : Array Value) (v : Value) (hcs : cs.size = 11)
    (hp : tmps.getD p undef = .pointer (some ⟨g, 0, none⟩)) (hv : tmps.getD u undef = v) (hg : w.heap[g]? = some (.cells cs 173 (0, 0))) : (results fn tmps).run Tryz.prog w = .ok (.tuple #[.agg cs, v]) w := by
  have hp' : tmps[p]?.getD undef = .pointer (some ⟨g, 0, none⟩) := by simpa using hp
  have hv' : tmps[u]?.getD undef = v := by simpa using hv
  have hl := run_loadVar_row (P := Tryz.prog) w g 173 173 _ (0, 0) _ hg Tryz.underlying173 rfl (by rw [hcs]; kernel_rfl)
  simp [results, h, hp', hv', asAddr, hl]
attribute [local go_sem ↓] al173 stw173 ldw173
attribute [local go_sem] run_al173 run_stT173 stN_rh run_ldT173 ldN_rh blk_new blk_at blk_old blk_drew blk_setCell blk_setRow alloc_setRow

structure RdS (w W : World) (h : Rh) : Prop where
  r6 : W.heap[w.heap.size + 1]? = some (.cells #[.int .i64 h.alg, .int .i64 h.id, .string h.fix, .int .i64 h.seals, .int .i64 h.ahead, .int .i64 h.most, .int .i64 h.res, .bool h.ret, .string h.key, .int .i64 h.pos, .int .i64 h.ctr] 173 (0, 0))
  r4 : W.heap[w.heap.size]? = some (.cells zrhA 173 (0, 0))
  bl : Below w.heap.size w W
theorem RdS.lt {w W : World} {h : Rh} (s : RdS w W h) : w.heap.size + 1 < W.heap.size := by
  rcases Nat.lt_or_ge (w.heap.size + 1) W.heap.size with hlt | hge
  · exact hlt
  · have := s.r6; rw [Array.getElem?_eq_none hge] at this; cases this
theorem RdS.keep {w W W' : World} {h : Rh} (s : RdS w W h) (hb : Below W.heap.size W W') : RdS w W' h := ⟨by rw [hb.block _ s.lt]; exact s.r6, by rw [hb.block _ (by have := s.lt; omega)]; exact s.r4, s.bl.trans (hb.mono (by have := s.lt; omega))⟩
theorem RdS.drew {w W : World} {h : Rh} (s : RdS w W h) : RdS w W.drew h := ⟨s.r6, s.r4, s.bl.drew⟩
theorem RdS.cs {w W : World} {h : Rh} (s : RdS w W h) : W.cell? ⟨w.heap.size + 1, 0, none⟩ = some (.int .i64 h.alg) ∧ W.cell? ⟨w.heap.size + 1, 1, none⟩ = some (.int .i64 h.id) ∧ W.cell? ⟨w.heap.size + 1, 2, none⟩ = some (.string h.fix) ∧ W.cell? ⟨w.heap.size + 1, 3, none⟩ = some (.int .i64 h.seals) ∧ W.cell? ⟨w.heap.size + 1, 4, none⟩ = some (.int .i64 h.ahead) ∧ W.cell? ⟨w.heap.size + 1, 5, none⟩ = some (.int .i64 h.most) ∧ W.cell? ⟨w.heap.size + 1, 6, none⟩ = some (.int .i64 h.res) ∧ W.cell? ⟨w.heap.size + 1, 7, none⟩ = some (.bool h.ret) ∧ W.cell? ⟨w.heap.size + 1, 8, none⟩ = some (.string h.key) ∧ W.cell? ⟨w.heap.size + 1, 9, none⟩ = some (.int .i64 h.pos) ∧ W.cell? ⟨w.heap.size + 1, 10, none⟩ = some (.int .i64 h.ctr) := cells11 s.r6
structure RdC (W : World) (g : Nat) (h : Rh) : Prop where
  r6 : W.heap[g]? = some (.cells #[.int .i64 h.alg, .int .i64 h.id, .string h.fix, .int .i64 h.seals, .int .i64 h.ahead, .int .i64 h.most, .int .i64 h.res, .bool h.ret, .string h.key, .int .i64 h.pos, .int .i64 h.ctr] 173 (0, 0))
theorem RdC.cs {W : World} {g : Nat} {h : Rh} (s : RdC W g h) : W.cell? ⟨g, 0, none⟩ = some (.int .i64 h.alg) ∧ W.cell? ⟨g, 1, none⟩ = some (.int .i64 h.id) ∧ W.cell? ⟨g, 2, none⟩ = some (.string h.fix) ∧ W.cell? ⟨g, 3, none⟩ = some (.int .i64 h.seals) ∧ W.cell? ⟨g, 4, none⟩ = some (.int .i64 h.ahead) ∧ W.cell? ⟨g, 5, none⟩ = some (.int .i64 h.most) ∧ W.cell? ⟨g, 6, none⟩ = some (.int .i64 h.res) ∧ W.cell? ⟨g, 7, none⟩ = some (.bool h.ret) ∧ W.cell? ⟨g, 8, none⟩ = some (.string h.key) ∧ W.cell? ⟨g, 9, none⟩ = some (.int .i64 h.pos) ∧ W.cell? ⟨g, 10, none⟩ = some (.int .i64 h.ctr) := cells11 s.r6
theorem rd_sets {W : World} {g : Nat} {a z1 f z3 z4 z5 z6 r k p z10 : Value} (v1 v3 v4 v5 v6 v10 : Value) (h : W.heap[g]? = some (.cells #[a, z1, f, z3, z4, z5, z6, r, k, p, z10] 173 (0, 0))) :
    ((((((W.setCell ⟨g, 1, none⟩ v1).setCell ⟨g, 3, none⟩ v3).setCell ⟨g, 4, none⟩ v4).setCell ⟨g, 5, none⟩ v5).setCell ⟨g, 6, none⟩ v6).setCell ⟨g, 10, none⟩ v10).heap[g]? = some (.cells #[a, v1, f, v3, v4, v5, v6, r, k, p, v10] 173 (0, 0)) := by
  have h1 := heap_setCell_same W g 1 _ 173 v1 h
  have h3 := heap_setCell_same _ g 3 _ 173 v3 h1
  have h4 := heap_setCell_same _ g 4 _ 173 v4 h3
  have h5 := heap_setCell_same _ g 5 _ 173 v5 h4
  have h6 := heap_setCell_same _ g 6 _ 173 v6 h5
  have h10 := heap_setCell_same _ g 10 _ 173 v10 h6
  exact h10
set_option maxRecDepth 100000 in
set_option maxHeartbeats 8000000 in
theorem read_mid (s : ByteArray) (q b1 b2 b : Bool) (hh : Rh) (hct : hh.ctr = hh.res) (hs : 15 ≤ s.size) (hz : s.size ≤ 64) (eA : (sf s 1).toNat = hh.alg) (e10 : (sf s 10).toNat = hh.ahead) (e11 : (sf s 11).toNat = hh.most)
    (efx : s.extract 4 8 = hh.fix) (eky : s.extract 15 s.size = hh.key) (eI : valF (sf s) 2 2 = hh.id) (eSe : valF (sf s) 8 2 = hh.seals) (eR : valF (sf s) 12 2 = hh.res) (er : (((sf s 14).toNat : Int) == 2) = hh.ret)
    (hA : hh.alg < 256) (h10 : hh.ahead < 256) (h11 : hh.most < 256) (hI : hh.id < 65536) (hSe : hh.seals < 65536) (hR : hh.res < 65536) (hq : ((algN hh.key.size : Int) == (hh.alg : Int)) = q) (hb1 : cfgB hh.seals hh.ahead hh.most = b1) (hb2 : ((rhT hh).toList == s.toList) = b2)
    (hb : b = (b1 && b2 && (if hh.ret then decide (1 ≤ hh.alg ∧ hh.alg ≤ 3) else q && decide (0 < hh.alg)) && decide (hh.res ≤ hh.seals))) (w : World) :
    Calls Tryz.prog 100 #[.string s, .int .i64 hh.pos] w fun e w' => e = .returned (.tuple #[.agg (rhA hh), .bool b]) ∧ Below w.heap.size w w' := by
  have EV : Hid _ := And.intro eI (And.intro eSe eR)
  have E1 : Hid _ := And.intro eA (And.intro e10 (And.intro e11 (And.intro efx (And.intro eky er))))
  clear eI eSe eR eA e10 e11 efx eky er
  have z1 : hh.fix.size ≤ 1000 := by
    have e := congrArg ByteArray.size E1.out.2.2.2.1
    rw [ByteArray.size_extract] at e
    omega
  have z2 : hh.key.size ≤ 1000 := by
    have e := congrArg ByteArray.size E1.out.2.2.2.2.1
    rw [ByteArray.size_extract] at e
    omega
  have hsm : RhSm hh := by
    exact ⟨by omega, hI, z1, hSe, by omega, by omega, hR, z2⟩
  have i1 := sfi s 1 (by omega)
  have i14 := sfi s 14 (by omega)
  have i10 := sfi s 10 (by omega)
  have i11 := sfi s 11 (by omega)
  have l1 : (1 : Int) < s.size := by omega
  have l14 : (14 : Int) < s.size := by omega
  have l10 : (10 : Int) < s.size := by omega
  have l11 : (11 : Int) < s.size := by omega
  have l8 : (8 : Int) ≤ s.size := by omega
  have l15 : (15 : Int) ≤ s.size := by omega
  have k1 : wrap64 (hh.alg : Int) = hh.alg := by unfold wrap64; omega
  have k10 : wrap64 (hh.ahead : Int) = hh.ahead := by unfold wrap64; omega
  have k11 : wrap64 (hh.most : Int) = hh.most := by unfold wrap64; omega
  have v1 := fun w => value_ref s 2 2 (by omega) (by omega) (by omega) w
  have v2 := fun w => value_ref s 8 2 (by omega) (by omega) (by omega) w
  have v3 := fun w => value_ref s 12 2 (by omega) (by omega) (by omega) w
  rw [EV.out.1] at v1
  rw [EV.out.2.1] at v2
  rw [EV.out.2.2] at v3
  have tx := fun w => rtext_any hh hsm w
  have rr := fun w => rright_any hh.seals hh.ahead hh.most w
  rw [hb1] at rr
  have T : Hid _ := tx
  have RR : Hid _ := rr
  have V1 : Hid _ := v1
  have V2 : Hid _ := v2
  have V3 : Hid _ := v3
  have HB : Hid _ := hb
  have HB2 : Hid _ := hb2
  have HC : Hid _ := hct
  have HQ : Hid _ := hq
  have E2 : Hid _ := And.intro hA (And.intro h10 (And.intro h11 (And.intro hI (And.intro hSe hR))))
  have E3 : Hid _ := And.intro k1 (And.intro k10 k11)
  have I1 : Hid _ := And.intro i10 i11
  clear v1 v2 v3 hsm tx rr hb hb1 hb2 hct hq z1 z2 hA h10 h11 hI hSe hR k1 k10 k11 i10 i11
  go_enter Tryz.func100, Tryz.ntmps100
  go_wp2_with fail
  go_region
  suffices HH : ∀ W, W.heap[w.heap.size + 1]? = some (.cells #[.int .i64 hh.alg, .int .i64 0, .string hh.fix, .int .i64 0, .int .i64 0, .int .i64 0, .int .i64 0, .bool hh.ret, .string hh.key, .int .i64 hh.pos, .int .i64 0] 173 (0, 0)) → W.heap[w.heap.size]? = some (.cells zrhA 173 (0, 0)) → Below w.heap.size w W → Exit.then _ _ _ _ W by
    refine HH _ ?_ ?_ ?_
    · obtain ⟨eA, e10, e11, efx, eky, er⟩ := E1.out
      rw [← E3.out.1, ← eA, ← efx, ← er, ← eky]
      exact setRow_heap _ _ _ _ 173 _ (heap_of_new _ _ _ (by simp))
    · rw [setRow_other _ _ _ _ (by omega)]
      exact heap_of_old (w.alloc (.cells zrhA 173)) _ _ _ (by simp) (heap_of_new _ _ _ rfl)
    · exact Below.setRow (((Below.refl _ w).alloc (Nat.le_refl _) _).alloc (by simp) _).drew (by omega) _
  intro W r6 r4 hB
  obtain ⟨d0, d1, d2, d3, d4, d5, d6, d7, d8, d9, d10⟩ := cells11 r6
  have ff := fun j => frozen_of_row _ _ j _ _ r6
  obtain ⟨k1, k10, k11⟩ := E3.out
  obtain ⟨eA, e10, e11, efx, eky, er⟩ := E1.out
  obtain ⟨i10, i11⟩ := I1.out
  clear eA efx eky er k1 i1 i14
  go_wp2_with fail
  refine (V1.out _).mono ?_
  rintro e wa ⟨rfl, hwa⟩
  subst hwa
  go_wp2_with fail
  refine (V2.out _).mono ?_
  rintro e wa ⟨rfl, hwa⟩
  subst hwa
  go_wp2_with fail
  refine (V3.out _).mono ?_
  rintro e wa ⟨rfl, hwa⟩
  subst hwa
  go_wp2_with fail
  refine (RR.out _).mono ?_
  rintro e w1 ⟨rfl, b1'⟩
  have S0 := RdS.keep (h := hh) ⟨by rw [HC.out]; exact rd_sets _ _ _ _ _ _ r6, by rw [heap_skip _ _ _ _ _ (by omega), heap_skip _ _ _ _ _ (by omega), heap_skip _ _ _ _ _ (by omega), heap_skip _ _ _ _ _ (by omega), heap_skip _ _ _ _ _ (by omega), heap_skip _ _ _ _ _ (by omega)]; exact r4, (((((hB.setCell (by dsimp only; omega) _).setCell (by dsimp only; omega) _).setCell (by dsimp only; omega) _).setCell (by dsimp only; omega) _).setCell (by dsimp only; omega) _).setCell (by dsimp only; omega) _⟩ b1'
  clear b1' r6 r4 hB d0 d1 d2 d3 d4 d5 d6 d7 d8 d9 d10 ff k10 k11 e10 e11 i10 i11 V1 V2 V3 RR
  have hb6 : blk w1 (w.heap.size + 1) = _ := S0.r6
  unfold rhA at T
  go_wp2_with fail
  refine (T.out _).mono ?_
  rintro e w2 ⟨rfl, b2'⟩
  have S2 := S0.keep b2'
  clear S0 b2' hb6 T
  go_wp2_with fail
  have hq := HQ.out
  clear HQ
  cases q
  case false =>
    refine wp_region_held_drew (S := fun W' => RdS w W' hh) (by kernel_rfl) S2.drew (fun hHeld => ?_)
    refine tk 0 ?v1 ?y1 ?r1
    case y1 => (intro W' hW; go_simp; try with_reducible rfl)
    refine tk 1 ?v2 ?y2 ?r2
    case y2 => (intro W' hW; obtain ⟨d0, d1, d2, d3, d4, d5, d6, d7, d8, d9, d10⟩ := hW.cs; go_simp; try with_reducible rfl)
    refine tk 3 ?v3 ?y3 ?r3
    case y3 => (intro W' hW; go_simp; try with_reducible rfl)
    try simp only [Act.put, List.getElem_toArray, List.getElem_cons_zero, List.getElem_cons_succ, List.setIfInBounds_toArray, List.set_cons_zero, List.set_cons_succ]
    refine tk 4 ?v4 ?y4 ?r4
    case y4 => (intro W' hW; obtain ⟨d0, d1, d2, d3, d4, d5, d6, d7, d8, d9, d10⟩ := hW.cs; go_simp; try with_reducible rfl)
    try simp only [Act.put, List.getElem_toArray, List.getElem_cons_zero, List.getElem_cons_succ, List.setIfInBounds_toArray, List.set_cons_zero, List.set_cons_succ]
    refine wpAnyH_ready (rs := [2]) (by kernel_rfl) (by simp) ?_
    refine AllReadyH.cons rfl (fun K hK => ?_) ?nil2
    case nil2 => exact AllReadyH.nil
    go_simp
    refine (rAlg_any _ _).mono ?_
    rintro e wa ⟨rfl, hwa⟩
    subst hwa
    go_wp2_with fail
    refine hK.out _ _ hHeld (fun hHeld => ?_)
    clear hK K
    refine tk 5 ?v5 ?y5 ?r5
    case y5 => (intro W' hW; go_simp; try with_reducible rfl)
    refine tk 6 ?v6 ?y6 ?r6
    case y6 => (intro W' hW; go_simp; try with_reducible rfl)
    refine wpAnyH_take (i := 7) (v := undef) rfl (by kernel_rfl) (by kernel_rfl) (by kernel_rfl) (fun _ _ _ h => h) (Or.inr ⟨by rfl, rfl⟩) (by assumption) ?r7
    try simp only [Act.put, List.getElem_toArray, List.getElem_cons_zero, List.getElem_cons_succ, List.setIfInBounds_toArray, List.set_cons_zero, List.set_cons_succ]
    refine wpAnyH_take (i := 8) (v := undef) rfl (by kernel_rfl) (by kernel_rfl) (by kernel_rfl) (fun _ _ _ h => h) (Or.inr ⟨by rfl, rfl⟩) (by assumption) ?r8
    refine wpAnyH_take (i := 9) (v := undef) rfl (by kernel_rfl) (by kernel_rfl) (by kernel_rfl) (fun _ _ _ h => h) (Or.inr ⟨by rfl, rfl⟩) (by assumption) ?r9
    refine tk 10 ?v10 ?y10 ?r10
    case y10 => (intro W' hW; go_simp; try with_reducible rfl)
    try simp only [Act.put, List.getElem_toArray, List.getElem_cons_zero, List.getElem_cons_succ, List.setIfInBounds_toArray, List.set_cons_zero, List.set_cons_succ]
    refine tk 11 ?v11 ?y11 ?r11
    case y11 => (intro W' hW; go_simp; try with_reducible rfl)
    try simp only [Act.put, List.getElem_toArray, List.getElem_cons_zero, List.getElem_cons_succ, List.setIfInBounds_toArray, List.set_cons_zero, List.set_cons_succ]
    refine wpAnyH_done (by kernel_rfl) ?_ _
    have S3 := hHeld
    clear hHeld S2
    obtain ⟨d0, d1, d2, d3, d4, d5, d6, d7, d8, d9, d10⟩ := S3.cs
    cases hr : hh.ret
    case false =>
      rw [hr] at d7
      have hk : (if hh.ret = true then decide (1 ≤ hh.alg ∧ hh.alg ≤ 3) else false && decide (0 < hh.alg)) = false := by rw [if_neg (by rw [hr]; decide)]; rfl
      have HK : Hid _ := hk
      clear hk hr
      go_wp2_with fail
      have hk := HK.out
      clear d0 d1 d2 d3 d4 d5 d6 d7 d8 d9 d10
      generalize w2.drew = w3 at *
      have hb4 : blk w3 w.heap.size = some (.cells zrhA 173 (0, 0)) := S3.r4
      have hb2 := HB2.out
      clear HB2
      cases b1
      case false =>
        refine wp_region_held_drew (S := fun W' => RdC W' (w.heap.size + 1) hh) (by kernel_rfl) (RdC.mk S3.r6) (fun hHeld => ?_)
        refine tk 0 ?v12 ?y12 ?r12
        case y12 => (intro W' hW; have hb6 : blk W' (w.heap.size + 1) = _ := hW.r6; go_simp; try with_reducible rfl)
        refine tk 1 ?v13 ?y13 ?r13
        case y13 => (intro W' hW; go_simp; try with_reducible rfl)
        refine tk 2 ?v14 ?y14 ?r14
        case y14 => (intro W' hW; go_simp; try with_reducible rfl)
        try simp only [Act.put, List.getElem_toArray, List.getElem_cons_zero, List.getElem_cons_succ, List.setIfInBounds_toArray, List.set_cons_zero, List.set_cons_succ]
        refine wpAnyH_take (i := 3) (v := undef) rfl (by kernel_rfl) (by kernel_rfl) (by kernel_rfl) (fun _ _ _ h => h) (Or.inr ⟨by rfl, rfl⟩) (by assumption) ?r15
        refine wpAnyH_take (i := 4) (v := undef) rfl (by kernel_rfl) (by kernel_rfl) (by kernel_rfl) (fun _ _ _ h => h) (Or.inr ⟨by rfl, rfl⟩) (by assumption) ?r16
        refine wpAnyH_take (i := 5) (v := undef) rfl (by kernel_rfl) (by kernel_rfl) (by kernel_rfl) (fun _ _ _ h => h) (Or.inr ⟨by rfl, rfl⟩) (by assumption) ?r17
        try simp only [Act.put, List.getElem_toArray, List.getElem_cons_zero, List.getElem_cons_succ, List.setIfInBounds_toArray, List.set_cons_zero, List.set_cons_succ]
        refine tk 6 ?v18 ?y18 ?r18
        case y18 => (intro W' hW; go_simp; try with_reducible rfl)
        refine tk 7 ?v19 ?y19 ?r19
        case y19 => (intro W' hW; go_simp; try with_reducible rfl)
        refine wpAnyH_take (i := 8) (v := undef) rfl (by kernel_rfl) (by kernel_rfl) (by kernel_rfl) (fun _ _ _ h => h) (Or.inr ⟨by rfl, rfl⟩) (by assumption) ?r20
        try simp only [Act.put, List.getElem_toArray, List.getElem_cons_zero, List.getElem_cons_succ, List.setIfInBounds_toArray, List.set_cons_zero, List.set_cons_succ]
        refine tk 9 ?v21 ?y21 ?r21
        case y21 => (intro W' hW; go_simp; try with_reducible rfl)
        refine tk 10 ?v22 ?y22 ?r22
        case y22 => (intro W' hW; go_simp; try with_reducible rfl)
        refine wpAnyH_take (i := 11) (v := undef) rfl (by kernel_rfl) (by kernel_rfl) (by kernel_rfl) (fun _ _ _ h => h) (Or.inr ⟨by rfl, rfl⟩) (by assumption) ?r23
        try simp only [Act.put, List.getElem_toArray, List.getElem_cons_zero, List.getElem_cons_succ, List.setIfInBounds_toArray, List.set_cons_zero, List.set_cons_succ]
        refine wpAnyH_take (i := 12) (v := undef) rfl (by kernel_rfl) (by kernel_rfl) (by kernel_rfl) (fun _ _ _ h => h) (Or.inr ⟨by rfl, rfl⟩) (by assumption) ?r24
        refine wpAnyH_take (i := 13) (v := undef) rfl (by kernel_rfl) (by kernel_rfl) (by kernel_rfl) (fun _ _ _ h => h) (Or.inr ⟨by rfl, rfl⟩) (by assumption) ?r25
        refine wpAnyH_take (i := 14) (v := undef) rfl (by kernel_rfl) (by kernel_rfl) (by kernel_rfl) (fun _ _ _ h => h) (Or.inr ⟨by rfl, rfl⟩) (by assumption) ?r26
        try simp only [Act.put, List.getElem_toArray, List.getElem_cons_zero, List.getElem_cons_succ, List.setIfInBounds_toArray, List.set_cons_zero, List.set_cons_succ]
        refine wpAnyH_take (i := 15) (v := undef) rfl (by kernel_rfl) (by kernel_rfl) (by kernel_rfl) (fun _ _ _ h => h) (Or.inr ⟨by rfl, rfl⟩) (by assumption) ?r27
        refine wpAnyH_take (i := 16) (v := undef) rfl (by kernel_rfl) (by kernel_rfl) (by kernel_rfl) (fun _ _ _ h => h) (Or.inr ⟨by rfl, rfl⟩) (by assumption) ?r28
        refine tk 17 ?v29 ?y29 ?r29
        case y29 => (intro W' hW; go_simp; try with_reducible rfl)
        try simp only [Act.put, List.getElem_toArray, List.getElem_cons_zero, List.getElem_cons_succ, List.setIfInBounds_toArray, List.set_cons_zero, List.set_cons_succ]
        refine wpAnyH_ready (rs := [18]) (by kernel_rfl) (by simp) ?_
        refine AllReadyH.cons rfl (fun K hK => ?_) ?nil18
        case nil18 => exact AllReadyH.nil
        go_simp
        refine hK.out _ _ ⟨by rw [setRow_other _ _ _ _ (by omega)]; exact S3.r6⟩ (fun hHeld => ?_)
        clear hK K
        refine tk 19 ?v30 ?y30 ?r30
        case y30 => (intro W' hW; go_simp; try with_reducible rfl)
        try simp only [Act.put, List.getElem_toArray, List.getElem_cons_zero, List.getElem_cons_succ, List.setIfInBounds_toArray, List.set_cons_zero, List.set_cons_succ]
        refine wpAnyH_done (by kernel_rfl) ?_ _
        go_wp2
        refine bodyPost_ret (res173 Tryz.results100 _ _ w.heap.size (rhA hh) _ rfl rfl rfl (setRow_heap w3.drew _ _ _ 173 _ S3.r4)) rfl ⟨?_, ?_⟩
        · exact congrArg (fun x => Ending.returned (.tuple #[.agg (rhA hh), .bool x])) (by rw [HB.out, hk]; simp)
        · exact Below.setRow S3.bl.drew (Nat.le_refl _) _
      case true =>
        cases b2
        case false =>
          refine wp_region_held_drew (S := fun W' => RdC W' (w.heap.size + 1) hh) (by kernel_rfl) (RdC.mk S3.r6) (fun hHeld => ?_)
          refine tk 0 ?v31 ?y31 ?r31
          case y31 => (intro W' hW; have hb6 : blk W' (w.heap.size + 1) = _ := hW.r6; go_simp; try with_reducible rfl)
          refine tk 1 ?v32 ?y32 ?r32
          case y32 => (intro W' hW; go_simp; try with_reducible rfl)
          refine tk 2 ?v33 ?y33 ?r33
          case y33 => (intro W' hW; go_simp; try with_reducible rfl)
          try simp only [Act.put, List.getElem_toArray, List.getElem_cons_zero, List.getElem_cons_succ, List.setIfInBounds_toArray, List.set_cons_zero, List.set_cons_succ]
          refine tk 3 ?v34 ?y34 ?r34
          case y34 => (intro W' hW; go_simp; try with_reducible rfl)
          refine tk 4 ?v35 ?y35 ?r35
          case y35 => (intro W' hW; go_simp; try with_reducible rfl)
          refine tk 5 ?v36 ?y36 ?r36
          case y36 => (intro W' hW; go_simp; try with_reducible rfl)
          try simp only [Act.put, List.getElem_toArray, List.getElem_cons_zero, List.getElem_cons_succ, List.setIfInBounds_toArray, List.set_cons_zero, List.set_cons_succ]
          refine tk 6 ?v37 ?y37 ?r37
          case y37 => (intro W' hW; go_simp; try with_reducible rfl)
          refine tk 7 ?v38 ?y38 ?r38
          case y38 => (intro W' hW; go_simp; try with_reducible rfl)
          refine wpAnyH_take (i := 8) (v := undef) rfl (by kernel_rfl) (by kernel_rfl) (by kernel_rfl) (fun _ _ _ h => h) (Or.inr ⟨by rfl, rfl⟩) (by assumption) ?r39
          try simp only [Act.put, List.getElem_toArray, List.getElem_cons_zero, List.getElem_cons_succ, List.setIfInBounds_toArray, List.set_cons_zero, List.set_cons_succ]
          refine tk 9 ?v40 ?y40 ?r40
          case y40 => (intro W' hW; go_simp; try with_reducible rfl)
          refine tk 10 ?v41 ?y41 ?r41
          case y41 => (intro W' hW; go_simp; try with_reducible rfl)
          refine wpAnyH_take (i := 11) (v := undef) rfl (by kernel_rfl) (by kernel_rfl) (by kernel_rfl) (fun _ _ _ h => h) (Or.inr ⟨by rfl, rfl⟩) (by assumption) ?r42
          try simp only [Act.put, List.getElem_toArray, List.getElem_cons_zero, List.getElem_cons_succ, List.setIfInBounds_toArray, List.set_cons_zero, List.set_cons_succ]
          refine wpAnyH_take (i := 12) (v := undef) rfl (by kernel_rfl) (by kernel_rfl) (by kernel_rfl) (fun _ _ _ h => h) (Or.inr ⟨by rfl, rfl⟩) (by assumption) ?r43
          refine wpAnyH_take (i := 13) (v := undef) rfl (by kernel_rfl) (by kernel_rfl) (by kernel_rfl) (fun _ _ _ h => h) (Or.inr ⟨by rfl, rfl⟩) (by assumption) ?r44
          refine wpAnyH_take (i := 14) (v := undef) rfl (by kernel_rfl) (by kernel_rfl) (by kernel_rfl) (fun _ _ _ h => h) (Or.inr ⟨by rfl, rfl⟩) (by assumption) ?r45
          try simp only [Act.put, List.getElem_toArray, List.getElem_cons_zero, List.getElem_cons_succ, List.setIfInBounds_toArray, List.set_cons_zero, List.set_cons_succ]
          refine wpAnyH_take (i := 15) (v := undef) rfl (by kernel_rfl) (by kernel_rfl) (by kernel_rfl) (fun _ _ _ h => h) (Or.inr ⟨by rfl, rfl⟩) (by assumption) ?r46
          refine wpAnyH_take (i := 16) (v := undef) rfl (by kernel_rfl) (by kernel_rfl) (by kernel_rfl) (fun _ _ _ h => h) (Or.inr ⟨by rfl, rfl⟩) (by assumption) ?r47
          refine tk 17 ?v48 ?y48 ?r48
          case y48 => (intro W' hW; go_simp; try with_reducible rfl)
          try simp only [Act.put, List.getElem_toArray, List.getElem_cons_zero, List.getElem_cons_succ, List.setIfInBounds_toArray, List.set_cons_zero, List.set_cons_succ]
          refine wpAnyH_ready (rs := [18]) (by kernel_rfl) (by simp) ?_
          refine AllReadyH.cons rfl (fun K hK => ?_) ?nil18
          case nil18 => exact AllReadyH.nil
          go_simp
          refine hK.out _ _ ⟨by rw [setRow_other _ _ _ _ (by omega)]; exact S3.r6⟩ (fun hHeld => ?_)
          clear hK K
          refine tk 19 ?v49 ?y49 ?r49
          case y49 => (intro W' hW; go_simp; try with_reducible rfl)
          try simp only [Act.put, List.getElem_toArray, List.getElem_cons_zero, List.getElem_cons_succ, List.setIfInBounds_toArray, List.set_cons_zero, List.set_cons_succ]
          refine wpAnyH_done (by kernel_rfl) ?_ _
          go_wp2
          refine bodyPost_ret (res173 Tryz.results100 _ _ w.heap.size (rhA hh) _ rfl rfl rfl (setRow_heap w3.drew _ _ _ 173 _ S3.r4)) rfl ⟨?_, ?_⟩
          · exact congrArg (fun x => Ending.returned (.tuple #[.agg (rhA hh), .bool x])) (by rw [HB.out, hk]; simp)
          · exact Below.setRow S3.bl.drew (Nat.le_refl _) _
        case true =>
          refine wp_region_held_drew (S := fun W' => RdC W' (w.heap.size + 1) hh) (by kernel_rfl) (RdC.mk S3.r6) (fun hHeld => ?_)
          refine tk 0 ?v50 ?y50 ?r50
          case y50 => (intro W' hW; have hb6 : blk W' (w.heap.size + 1) = _ := hW.r6; go_simp; try with_reducible rfl)
          refine tk 1 ?v51 ?y51 ?r51
          case y51 => (intro W' hW; go_simp; try with_reducible rfl)
          refine tk 2 ?v52 ?y52 ?r52
          case y52 => (intro W' hW; go_simp; try with_reducible rfl)
          try simp only [Act.put, List.getElem_toArray, List.getElem_cons_zero, List.getElem_cons_succ, List.setIfInBounds_toArray, List.set_cons_zero, List.set_cons_succ]
          refine tk 3 ?v53 ?y53 ?r53
          case y53 => (intro W' hW; go_simp; try with_reducible rfl)
          refine tk 4 ?v54 ?y54 ?r54
          case y54 => (intro W' hW; go_simp; try with_reducible rfl)
          refine tk 5 ?v55 ?y55 ?r55
          case y55 => (intro W' hW; go_simp; try with_reducible rfl)
          try simp only [Act.put, List.getElem_toArray, List.getElem_cons_zero, List.getElem_cons_succ, List.setIfInBounds_toArray, List.set_cons_zero, List.set_cons_succ]
          refine tk 6 ?v56 ?y56 ?r56
          case y56 => (intro W' hW; go_simp; try with_reducible rfl)
          refine tk 7 ?v57 ?y57 ?r57
          case y57 => (intro W' hW; go_simp; try with_reducible rfl)
          refine tk 8 ?v58 ?y58 ?r58
          case y58 => (intro W' hW; go_simp; try with_reducible rfl)
          try simp only [Act.put, List.getElem_toArray, List.getElem_cons_zero, List.getElem_cons_succ, List.setIfInBounds_toArray, List.set_cons_zero, List.set_cons_succ]
          refine tk 9 ?v59 ?y59 ?r59
          case y59 => (intro W' hW; go_simp; try with_reducible rfl)
          refine tk 10 ?v60 ?y60 ?r60
          case y60 => (intro W' hW; go_simp; try with_reducible rfl)
          refine wpAnyH_take (i := 11) (v := undef) rfl (by kernel_rfl) (by kernel_rfl) (by kernel_rfl) (fun _ _ _ h => h) (Or.inr ⟨by rfl, rfl⟩) (by assumption) ?r61
          try simp only [Act.put, List.getElem_toArray, List.getElem_cons_zero, List.getElem_cons_succ, List.setIfInBounds_toArray, List.set_cons_zero, List.set_cons_succ]
          refine wpAnyH_take (i := 12) (v := undef) rfl (by kernel_rfl) (by kernel_rfl) (by kernel_rfl) (fun _ _ _ h => h) (Or.inr ⟨by rfl, rfl⟩) (by assumption) ?r62
          refine wpAnyH_take (i := 13) (v := undef) rfl (by kernel_rfl) (by kernel_rfl) (by kernel_rfl) (fun _ _ _ h => h) (Or.inr ⟨by rfl, rfl⟩) (by assumption) ?r63
          refine wpAnyH_take (i := 14) (v := undef) rfl (by kernel_rfl) (by kernel_rfl) (by kernel_rfl) (fun _ _ _ h => h) (Or.inr ⟨by rfl, rfl⟩) (by assumption) ?r64
          try simp only [Act.put, List.getElem_toArray, List.getElem_cons_zero, List.getElem_cons_succ, List.setIfInBounds_toArray, List.set_cons_zero, List.set_cons_succ]
          refine wpAnyH_take (i := 15) (v := undef) rfl (by kernel_rfl) (by kernel_rfl) (by kernel_rfl) (fun _ _ _ h => h) (Or.inr ⟨by rfl, rfl⟩) (by assumption) ?r65
          refine wpAnyH_take (i := 16) (v := undef) rfl (by kernel_rfl) (by kernel_rfl) (by kernel_rfl) (fun _ _ _ h => h) (Or.inr ⟨by rfl, rfl⟩) (by assumption) ?r66
          refine tk 17 ?v67 ?y67 ?r67
          case y67 => (intro W' hW; go_simp; try with_reducible rfl)
          try simp only [Act.put, List.getElem_toArray, List.getElem_cons_zero, List.getElem_cons_succ, List.setIfInBounds_toArray, List.set_cons_zero, List.set_cons_succ]
          refine wpAnyH_ready (rs := [18]) (by kernel_rfl) (by simp) ?_
          refine AllReadyH.cons rfl (fun K hK => ?_) ?nil18
          case nil18 => exact AllReadyH.nil
          go_simp
          refine hK.out _ _ ⟨by rw [setRow_other _ _ _ _ (by omega)]; exact S3.r6⟩ (fun hHeld => ?_)
          clear hK K
          refine tk 19 ?v68 ?y68 ?r68
          case y68 => (intro W' hW; go_simp; try with_reducible rfl)
          try simp only [Act.put, List.getElem_toArray, List.getElem_cons_zero, List.getElem_cons_succ, List.setIfInBounds_toArray, List.set_cons_zero, List.set_cons_succ]
          refine wpAnyH_done (by kernel_rfl) ?_ _
          go_wp2
          refine bodyPost_ret (res173 Tryz.results100 _ _ w.heap.size (rhA hh) _ rfl rfl rfl (setRow_heap w3.drew _ _ _ 173 _ S3.r4)) rfl ⟨?_, ?_⟩
          · exact congrArg (fun x => Ending.returned (.tuple #[.agg (rhA hh), .bool x])) (by rw [HB.out, hk]; simp)
          · exact Below.setRow S3.bl.drew (Nat.le_refl _) _
    case true =>
      rw [hr] at d7
      by_cases ha : 1 ≤ (hh.alg : Int)
      · by_cases h3 : (hh.alg : Int) ≤ 3
        · have hk0 : (if hh.ret = true then decide (1 ≤ hh.alg ∧ hh.alg ≤ 3) else false && decide (0 < hh.alg)) = true := by rw [if_pos hr, decide_eq_true_eq]; omega
          have HK : Hid _ := hk0
          clear hr hk0
          go_wp2_with fail
          have hk := HK.out
          clear d0 d1 d2 d3 d4 d5 d6 d7 d8 d9 d10
          generalize w2.drew = w3 at *
          have hb4 : blk w3 w.heap.size = some (.cells zrhA 173 (0, 0)) := S3.r4
          have hb2 := HB2.out
          clear HB2
          cases b1
          case false =>
            refine wp_region_held_drew (S := fun W' => RdC W' (w.heap.size + 1) hh) (by kernel_rfl) (RdC.mk S3.r6) (fun hHeld => ?_)
            refine tk 0 ?v69 ?y69 ?r69
            case y69 => (intro W' hW; have hb6 : blk W' (w.heap.size + 1) = _ := hW.r6; go_simp; try with_reducible rfl)
            refine tk 1 ?v70 ?y70 ?r70
            case y70 => (intro W' hW; go_simp; try with_reducible rfl)
            refine tk 2 ?v71 ?y71 ?r71
            case y71 => (intro W' hW; go_simp; try with_reducible rfl)
            try simp only [Act.put, List.getElem_toArray, List.getElem_cons_zero, List.getElem_cons_succ, List.setIfInBounds_toArray, List.set_cons_zero, List.set_cons_succ]
            refine wpAnyH_take (i := 3) (v := undef) rfl (by kernel_rfl) (by kernel_rfl) (by kernel_rfl) (fun _ _ _ h => h) (Or.inr ⟨by rfl, rfl⟩) (by assumption) ?r72
            refine wpAnyH_take (i := 4) (v := undef) rfl (by kernel_rfl) (by kernel_rfl) (by kernel_rfl) (fun _ _ _ h => h) (Or.inr ⟨by rfl, rfl⟩) (by assumption) ?r73
            refine wpAnyH_take (i := 5) (v := undef) rfl (by kernel_rfl) (by kernel_rfl) (by kernel_rfl) (fun _ _ _ h => h) (Or.inr ⟨by rfl, rfl⟩) (by assumption) ?r74
            try simp only [Act.put, List.getElem_toArray, List.getElem_cons_zero, List.getElem_cons_succ, List.setIfInBounds_toArray, List.set_cons_zero, List.set_cons_succ]
            refine tk 6 ?v75 ?y75 ?r75
            case y75 => (intro W' hW; go_simp; try with_reducible rfl)
            refine tk 7 ?v76 ?y76 ?r76
            case y76 => (intro W' hW; go_simp; try with_reducible rfl)
            refine wpAnyH_take (i := 8) (v := undef) rfl (by kernel_rfl) (by kernel_rfl) (by kernel_rfl) (fun _ _ _ h => h) (Or.inr ⟨by rfl, rfl⟩) (by assumption) ?r77
            try simp only [Act.put, List.getElem_toArray, List.getElem_cons_zero, List.getElem_cons_succ, List.setIfInBounds_toArray, List.set_cons_zero, List.set_cons_succ]
            refine tk 9 ?v78 ?y78 ?r78
            case y78 => (intro W' hW; go_simp; try with_reducible rfl)
            refine tk 10 ?v79 ?y79 ?r79
            case y79 => (intro W' hW; go_simp; try with_reducible rfl)
            refine wpAnyH_take (i := 11) (v := undef) rfl (by kernel_rfl) (by kernel_rfl) (by kernel_rfl) (fun _ _ _ h => h) (Or.inr ⟨by rfl, rfl⟩) (by assumption) ?r80
            try simp only [Act.put, List.getElem_toArray, List.getElem_cons_zero, List.getElem_cons_succ, List.setIfInBounds_toArray, List.set_cons_zero, List.set_cons_succ]
            refine wpAnyH_take (i := 12) (v := undef) rfl (by kernel_rfl) (by kernel_rfl) (by kernel_rfl) (fun _ _ _ h => h) (Or.inr ⟨by rfl, rfl⟩) (by assumption) ?r81
            refine wpAnyH_take (i := 13) (v := undef) rfl (by kernel_rfl) (by kernel_rfl) (by kernel_rfl) (fun _ _ _ h => h) (Or.inr ⟨by rfl, rfl⟩) (by assumption) ?r82
            refine wpAnyH_take (i := 14) (v := undef) rfl (by kernel_rfl) (by kernel_rfl) (by kernel_rfl) (fun _ _ _ h => h) (Or.inr ⟨by rfl, rfl⟩) (by assumption) ?r83
            try simp only [Act.put, List.getElem_toArray, List.getElem_cons_zero, List.getElem_cons_succ, List.setIfInBounds_toArray, List.set_cons_zero, List.set_cons_succ]
            refine wpAnyH_take (i := 15) (v := undef) rfl (by kernel_rfl) (by kernel_rfl) (by kernel_rfl) (fun _ _ _ h => h) (Or.inr ⟨by rfl, rfl⟩) (by assumption) ?r84
            refine wpAnyH_take (i := 16) (v := undef) rfl (by kernel_rfl) (by kernel_rfl) (by kernel_rfl) (fun _ _ _ h => h) (Or.inr ⟨by rfl, rfl⟩) (by assumption) ?r85
            refine tk 17 ?v86 ?y86 ?r86
            case y86 => (intro W' hW; go_simp; try with_reducible rfl)
            try simp only [Act.put, List.getElem_toArray, List.getElem_cons_zero, List.getElem_cons_succ, List.setIfInBounds_toArray, List.set_cons_zero, List.set_cons_succ]
            refine wpAnyH_ready (rs := [18]) (by kernel_rfl) (by simp) ?_
            refine AllReadyH.cons rfl (fun K hK => ?_) ?nil18
            case nil18 => exact AllReadyH.nil
            go_simp
            refine hK.out _ _ ⟨by rw [setRow_other _ _ _ _ (by omega)]; exact S3.r6⟩ (fun hHeld => ?_)
            clear hK K
            refine tk 19 ?v87 ?y87 ?r87
            case y87 => (intro W' hW; go_simp; try with_reducible rfl)
            try simp only [Act.put, List.getElem_toArray, List.getElem_cons_zero, List.getElem_cons_succ, List.setIfInBounds_toArray, List.set_cons_zero, List.set_cons_succ]
            refine wpAnyH_done (by kernel_rfl) ?_ _
            go_wp2
            refine bodyPost_ret (res173 Tryz.results100 _ _ w.heap.size (rhA hh) _ rfl rfl rfl (setRow_heap w3.drew _ _ _ 173 _ S3.r4)) rfl ⟨?_, ?_⟩
            · exact congrArg (fun x => Ending.returned (.tuple #[.agg (rhA hh), .bool x])) (by rw [HB.out, hk]; simp)
            · exact Below.setRow S3.bl.drew (Nat.le_refl _) _
          case true =>
            cases b2
            case false =>
              refine wp_region_held_drew (S := fun W' => RdC W' (w.heap.size + 1) hh) (by kernel_rfl) (RdC.mk S3.r6) (fun hHeld => ?_)
              refine tk 0 ?v88 ?y88 ?r88
              case y88 => (intro W' hW; have hb6 : blk W' (w.heap.size + 1) = _ := hW.r6; go_simp; try with_reducible rfl)
              refine tk 1 ?v89 ?y89 ?r89
              case y89 => (intro W' hW; go_simp; try with_reducible rfl)
              refine tk 2 ?v90 ?y90 ?r90
              case y90 => (intro W' hW; go_simp; try with_reducible rfl)
              try simp only [Act.put, List.getElem_toArray, List.getElem_cons_zero, List.getElem_cons_succ, List.setIfInBounds_toArray, List.set_cons_zero, List.set_cons_succ]
              refine tk 3 ?v91 ?y91 ?r91
              case y91 => (intro W' hW; go_simp; try with_reducible rfl)
              refine tk 4 ?v92 ?y92 ?r92
              case y92 => (intro W' hW; go_simp; try with_reducible rfl)
              refine tk 5 ?v93 ?y93 ?r93
              case y93 => (intro W' hW; go_simp; try with_reducible rfl)
              try simp only [Act.put, List.getElem_toArray, List.getElem_cons_zero, List.getElem_cons_succ, List.setIfInBounds_toArray, List.set_cons_zero, List.set_cons_succ]
              refine tk 6 ?v94 ?y94 ?r94
              case y94 => (intro W' hW; go_simp; try with_reducible rfl)
              refine tk 7 ?v95 ?y95 ?r95
              case y95 => (intro W' hW; go_simp; try with_reducible rfl)
              refine wpAnyH_take (i := 8) (v := undef) rfl (by kernel_rfl) (by kernel_rfl) (by kernel_rfl) (fun _ _ _ h => h) (Or.inr ⟨by rfl, rfl⟩) (by assumption) ?r96
              try simp only [Act.put, List.getElem_toArray, List.getElem_cons_zero, List.getElem_cons_succ, List.setIfInBounds_toArray, List.set_cons_zero, List.set_cons_succ]
              refine tk 9 ?v97 ?y97 ?r97
              case y97 => (intro W' hW; go_simp; try with_reducible rfl)
              refine tk 10 ?v98 ?y98 ?r98
              case y98 => (intro W' hW; go_simp; try with_reducible rfl)
              refine wpAnyH_take (i := 11) (v := undef) rfl (by kernel_rfl) (by kernel_rfl) (by kernel_rfl) (fun _ _ _ h => h) (Or.inr ⟨by rfl, rfl⟩) (by assumption) ?r99
              try simp only [Act.put, List.getElem_toArray, List.getElem_cons_zero, List.getElem_cons_succ, List.setIfInBounds_toArray, List.set_cons_zero, List.set_cons_succ]
              refine wpAnyH_take (i := 12) (v := undef) rfl (by kernel_rfl) (by kernel_rfl) (by kernel_rfl) (fun _ _ _ h => h) (Or.inr ⟨by rfl, rfl⟩) (by assumption) ?r100
              refine wpAnyH_take (i := 13) (v := undef) rfl (by kernel_rfl) (by kernel_rfl) (by kernel_rfl) (fun _ _ _ h => h) (Or.inr ⟨by rfl, rfl⟩) (by assumption) ?r101
              refine wpAnyH_take (i := 14) (v := undef) rfl (by kernel_rfl) (by kernel_rfl) (by kernel_rfl) (fun _ _ _ h => h) (Or.inr ⟨by rfl, rfl⟩) (by assumption) ?r102
              try simp only [Act.put, List.getElem_toArray, List.getElem_cons_zero, List.getElem_cons_succ, List.setIfInBounds_toArray, List.set_cons_zero, List.set_cons_succ]
              refine wpAnyH_take (i := 15) (v := undef) rfl (by kernel_rfl) (by kernel_rfl) (by kernel_rfl) (fun _ _ _ h => h) (Or.inr ⟨by rfl, rfl⟩) (by assumption) ?r103
              refine wpAnyH_take (i := 16) (v := undef) rfl (by kernel_rfl) (by kernel_rfl) (by kernel_rfl) (fun _ _ _ h => h) (Or.inr ⟨by rfl, rfl⟩) (by assumption) ?r104
              refine tk 17 ?v105 ?y105 ?r105
              case y105 => (intro W' hW; go_simp; try with_reducible rfl)
              try simp only [Act.put, List.getElem_toArray, List.getElem_cons_zero, List.getElem_cons_succ, List.setIfInBounds_toArray, List.set_cons_zero, List.set_cons_succ]
              refine wpAnyH_ready (rs := [18]) (by kernel_rfl) (by simp) ?_
              refine AllReadyH.cons rfl (fun K hK => ?_) ?nil18
              case nil18 => exact AllReadyH.nil
              go_simp
              refine hK.out _ _ ⟨by rw [setRow_other _ _ _ _ (by omega)]; exact S3.r6⟩ (fun hHeld => ?_)
              clear hK K
              refine tk 19 ?v106 ?y106 ?r106
              case y106 => (intro W' hW; go_simp; try with_reducible rfl)
              try simp only [Act.put, List.getElem_toArray, List.getElem_cons_zero, List.getElem_cons_succ, List.setIfInBounds_toArray, List.set_cons_zero, List.set_cons_succ]
              refine wpAnyH_done (by kernel_rfl) ?_ _
              go_wp2
              refine bodyPost_ret (res173 Tryz.results100 _ _ w.heap.size (rhA hh) _ rfl rfl rfl (setRow_heap w3.drew _ _ _ 173 _ S3.r4)) rfl ⟨?_, ?_⟩
              · exact congrArg (fun x => Ending.returned (.tuple #[.agg (rhA hh), .bool x])) (by rw [HB.out, hk]; simp)
              · exact Below.setRow S3.bl.drew (Nat.le_refl _) _
            case true =>
              refine wp_region_held_drew (S := fun W' => RdC W' (w.heap.size + 1) hh) (by kernel_rfl) (RdC.mk S3.r6) (fun hHeld => ?_)
              refine tk 0 ?v107 ?y107 ?r107
              case y107 => (intro W' hW; have hb6 : blk W' (w.heap.size + 1) = _ := hW.r6; go_simp; try with_reducible rfl)
              refine tk 1 ?v108 ?y108 ?r108
              case y108 => (intro W' hW; go_simp; try with_reducible rfl)
              refine tk 2 ?v109 ?y109 ?r109
              case y109 => (intro W' hW; go_simp; try with_reducible rfl)
              try simp only [Act.put, List.getElem_toArray, List.getElem_cons_zero, List.getElem_cons_succ, List.setIfInBounds_toArray, List.set_cons_zero, List.set_cons_succ]
              refine tk 3 ?v110 ?y110 ?r110
              case y110 => (intro W' hW; go_simp; try with_reducible rfl)
              refine tk 4 ?v111 ?y111 ?r111
              case y111 => (intro W' hW; go_simp; try with_reducible rfl)
              refine tk 5 ?v112 ?y112 ?r112
              case y112 => (intro W' hW; go_simp; try with_reducible rfl)
              try simp only [Act.put, List.getElem_toArray, List.getElem_cons_zero, List.getElem_cons_succ, List.setIfInBounds_toArray, List.set_cons_zero, List.set_cons_succ]
              refine tk 6 ?v113 ?y113 ?r113
              case y113 => (intro W' hW; go_simp; try with_reducible rfl)
              refine tk 7 ?v114 ?y114 ?r114
              case y114 => (intro W' hW; go_simp; try with_reducible rfl)
              refine tk 8 ?v115 ?y115 ?r115
              case y115 => (intro W' hW; go_simp; try with_reducible rfl)
              try simp only [Act.put, List.getElem_toArray, List.getElem_cons_zero, List.getElem_cons_succ, List.setIfInBounds_toArray, List.set_cons_zero, List.set_cons_succ]
              refine tk 9 ?v116 ?y116 ?r116
              case y116 => (intro W' hW; go_simp; try with_reducible rfl)
              refine tk 10 ?v117 ?y117 ?r117
              case y117 => (intro W' hW; go_simp; try with_reducible rfl)
              refine tk 11 ?v118 ?y118 ?r118
              case y118 => (intro W' hW; go_simp; try with_reducible rfl)
              try simp only [Act.put, List.getElem_toArray, List.getElem_cons_zero, List.getElem_cons_succ, List.setIfInBounds_toArray, List.set_cons_zero, List.set_cons_succ]
              refine tk 12 ?v119 ?y119 ?r119
              case y119 => (intro W' hW; obtain ⟨d0, d1, d2, d3, d4, d5, d6, d7, d8, d9, d10⟩ := hW.cs; go_simp; try with_reducible rfl)
              refine tk 13 ?v120 ?y120 ?r120
              case y120 => (intro W' hW; go_simp; try with_reducible rfl)
              refine tk 14 ?v121 ?y121 ?r121
              case y121 => (intro W' hW; go_simp; try with_reducible rfl)
              try simp only [Act.put, List.getElem_toArray, List.getElem_cons_zero, List.getElem_cons_succ, List.setIfInBounds_toArray, List.set_cons_zero, List.set_cons_succ]
              refine tk 15 ?v122 ?y122 ?r122
              case y122 => (intro W' hW; obtain ⟨d0, d1, d2, d3, d4, d5, d6, d7, d8, d9, d10⟩ := hW.cs; go_simp; try with_reducible rfl)
              refine tk 16 ?v123 ?y123 ?r123
              case y123 => (intro W' hW; go_simp; try with_reducible rfl)
              refine tk 17 ?v124 ?y124 ?r124
              case y124 => (intro W' hW; go_simp; try with_reducible rfl)
              try simp only [Act.put, List.getElem_toArray, List.getElem_cons_zero, List.getElem_cons_succ, List.setIfInBounds_toArray, List.set_cons_zero, List.set_cons_succ]
              refine wpAnyH_ready (rs := [18]) (by kernel_rfl) (by simp) ?_
              refine AllReadyH.cons rfl (fun K hK => ?_) ?nil18
              case nil18 => exact AllReadyH.nil
              go_simp
              refine hK.out _ _ ⟨by rw [setRow_other _ _ _ _ (by omega)]; exact S3.r6⟩ (fun hHeld => ?_)
              clear hK K
              refine tk 19 ?v125 ?y125 ?r125
              case y125 => (intro W' hW; go_simp; try with_reducible rfl)
              try simp only [Act.put, List.getElem_toArray, List.getElem_cons_zero, List.getElem_cons_succ, List.setIfInBounds_toArray, List.set_cons_zero, List.set_cons_succ]
              refine wpAnyH_done (by kernel_rfl) ?_ _
              go_wp2
              refine bodyPost_ret (res173 Tryz.results100 _ _ w.heap.size (rhA hh) _ rfl rfl rfl (setRow_heap w3.drew _ _ _ 173 _ S3.r4)) rfl ⟨?_, ?_⟩
              · exact congrArg (fun x => Ending.returned (.tuple #[.agg (rhA hh), .bool x])) (by rw [HB.out, hk]; simp)
              · exact Below.setRow S3.bl.drew (Nat.le_refl _) _
        · have hk0 : (if hh.ret = true then decide (1 ≤ hh.alg ∧ hh.alg ≤ 3) else false && decide (0 < hh.alg)) = false := by rw [if_pos hr, decide_eq_false_iff_not]; omega
          have HK : Hid _ := hk0
          clear hr hk0
          go_wp2_with fail
          have hk := HK.out
          clear d0 d1 d2 d3 d4 d5 d6 d7 d8 d9 d10
          generalize w2.drew = w3 at *
          have hb4 : blk w3 w.heap.size = some (.cells zrhA 173 (0, 0)) := S3.r4
          have hb2 := HB2.out
          clear HB2
          cases b1
          case false =>
            refine wp_region_held_drew (S := fun W' => RdC W' (w.heap.size + 1) hh) (by kernel_rfl) (RdC.mk S3.r6) (fun hHeld => ?_)
            refine tk 0 ?v126 ?y126 ?r126
            case y126 => (intro W' hW; have hb6 : blk W' (w.heap.size + 1) = _ := hW.r6; go_simp; try with_reducible rfl)
            refine tk 1 ?v127 ?y127 ?r127
            case y127 => (intro W' hW; go_simp; try with_reducible rfl)
            refine tk 2 ?v128 ?y128 ?r128
            case y128 => (intro W' hW; go_simp; try with_reducible rfl)
            try simp only [Act.put, List.getElem_toArray, List.getElem_cons_zero, List.getElem_cons_succ, List.setIfInBounds_toArray, List.set_cons_zero, List.set_cons_succ]
            refine wpAnyH_take (i := 3) (v := undef) rfl (by kernel_rfl) (by kernel_rfl) (by kernel_rfl) (fun _ _ _ h => h) (Or.inr ⟨by rfl, rfl⟩) (by assumption) ?r129
            refine wpAnyH_take (i := 4) (v := undef) rfl (by kernel_rfl) (by kernel_rfl) (by kernel_rfl) (fun _ _ _ h => h) (Or.inr ⟨by rfl, rfl⟩) (by assumption) ?r130
            refine wpAnyH_take (i := 5) (v := undef) rfl (by kernel_rfl) (by kernel_rfl) (by kernel_rfl) (fun _ _ _ h => h) (Or.inr ⟨by rfl, rfl⟩) (by assumption) ?r131
            try simp only [Act.put, List.getElem_toArray, List.getElem_cons_zero, List.getElem_cons_succ, List.setIfInBounds_toArray, List.set_cons_zero, List.set_cons_succ]
            refine tk 6 ?v132 ?y132 ?r132
            case y132 => (intro W' hW; go_simp; try with_reducible rfl)
            refine tk 7 ?v133 ?y133 ?r133
            case y133 => (intro W' hW; go_simp; try with_reducible rfl)
            refine wpAnyH_take (i := 8) (v := undef) rfl (by kernel_rfl) (by kernel_rfl) (by kernel_rfl) (fun _ _ _ h => h) (Or.inr ⟨by rfl, rfl⟩) (by assumption) ?r134
            try simp only [Act.put, List.getElem_toArray, List.getElem_cons_zero, List.getElem_cons_succ, List.setIfInBounds_toArray, List.set_cons_zero, List.set_cons_succ]
            refine tk 9 ?v135 ?y135 ?r135
            case y135 => (intro W' hW; go_simp; try with_reducible rfl)
            refine tk 10 ?v136 ?y136 ?r136
            case y136 => (intro W' hW; go_simp; try with_reducible rfl)
            refine wpAnyH_take (i := 11) (v := undef) rfl (by kernel_rfl) (by kernel_rfl) (by kernel_rfl) (fun _ _ _ h => h) (Or.inr ⟨by rfl, rfl⟩) (by assumption) ?r137
            try simp only [Act.put, List.getElem_toArray, List.getElem_cons_zero, List.getElem_cons_succ, List.setIfInBounds_toArray, List.set_cons_zero, List.set_cons_succ]
            refine wpAnyH_take (i := 12) (v := undef) rfl (by kernel_rfl) (by kernel_rfl) (by kernel_rfl) (fun _ _ _ h => h) (Or.inr ⟨by rfl, rfl⟩) (by assumption) ?r138
            refine wpAnyH_take (i := 13) (v := undef) rfl (by kernel_rfl) (by kernel_rfl) (by kernel_rfl) (fun _ _ _ h => h) (Or.inr ⟨by rfl, rfl⟩) (by assumption) ?r139
            refine wpAnyH_take (i := 14) (v := undef) rfl (by kernel_rfl) (by kernel_rfl) (by kernel_rfl) (fun _ _ _ h => h) (Or.inr ⟨by rfl, rfl⟩) (by assumption) ?r140
            try simp only [Act.put, List.getElem_toArray, List.getElem_cons_zero, List.getElem_cons_succ, List.setIfInBounds_toArray, List.set_cons_zero, List.set_cons_succ]
            refine wpAnyH_take (i := 15) (v := undef) rfl (by kernel_rfl) (by kernel_rfl) (by kernel_rfl) (fun _ _ _ h => h) (Or.inr ⟨by rfl, rfl⟩) (by assumption) ?r141
            refine wpAnyH_take (i := 16) (v := undef) rfl (by kernel_rfl) (by kernel_rfl) (by kernel_rfl) (fun _ _ _ h => h) (Or.inr ⟨by rfl, rfl⟩) (by assumption) ?r142
            refine tk 17 ?v143 ?y143 ?r143
            case y143 => (intro W' hW; go_simp; try with_reducible rfl)
            try simp only [Act.put, List.getElem_toArray, List.getElem_cons_zero, List.getElem_cons_succ, List.setIfInBounds_toArray, List.set_cons_zero, List.set_cons_succ]
            refine wpAnyH_ready (rs := [18]) (by kernel_rfl) (by simp) ?_
            refine AllReadyH.cons rfl (fun K hK => ?_) ?nil18
            case nil18 => exact AllReadyH.nil
            go_simp
            refine hK.out _ _ ⟨by rw [setRow_other _ _ _ _ (by omega)]; exact S3.r6⟩ (fun hHeld => ?_)
            clear hK K
            refine tk 19 ?v144 ?y144 ?r144
            case y144 => (intro W' hW; go_simp; try with_reducible rfl)
            try simp only [Act.put, List.getElem_toArray, List.getElem_cons_zero, List.getElem_cons_succ, List.setIfInBounds_toArray, List.set_cons_zero, List.set_cons_succ]
            refine wpAnyH_done (by kernel_rfl) ?_ _
            go_wp2
            refine bodyPost_ret (res173 Tryz.results100 _ _ w.heap.size (rhA hh) _ rfl rfl rfl (setRow_heap w3.drew _ _ _ 173 _ S3.r4)) rfl ⟨?_, ?_⟩
            · exact congrArg (fun x => Ending.returned (.tuple #[.agg (rhA hh), .bool x])) (by rw [HB.out, hk]; simp)
            · exact Below.setRow S3.bl.drew (Nat.le_refl _) _
          case true =>
            cases b2
            case false =>
              refine wp_region_held_drew (S := fun W' => RdC W' (w.heap.size + 1) hh) (by kernel_rfl) (RdC.mk S3.r6) (fun hHeld => ?_)
              refine tk 0 ?v145 ?y145 ?r145
              case y145 => (intro W' hW; have hb6 : blk W' (w.heap.size + 1) = _ := hW.r6; go_simp; try with_reducible rfl)
              refine tk 1 ?v146 ?y146 ?r146
              case y146 => (intro W' hW; go_simp; try with_reducible rfl)
              refine tk 2 ?v147 ?y147 ?r147
              case y147 => (intro W' hW; go_simp; try with_reducible rfl)
              try simp only [Act.put, List.getElem_toArray, List.getElem_cons_zero, List.getElem_cons_succ, List.setIfInBounds_toArray, List.set_cons_zero, List.set_cons_succ]
              refine tk 3 ?v148 ?y148 ?r148
              case y148 => (intro W' hW; go_simp; try with_reducible rfl)
              refine tk 4 ?v149 ?y149 ?r149
              case y149 => (intro W' hW; go_simp; try with_reducible rfl)
              refine tk 5 ?v150 ?y150 ?r150
              case y150 => (intro W' hW; go_simp; try with_reducible rfl)
              try simp only [Act.put, List.getElem_toArray, List.getElem_cons_zero, List.getElem_cons_succ, List.setIfInBounds_toArray, List.set_cons_zero, List.set_cons_succ]
              refine tk 6 ?v151 ?y151 ?r151
              case y151 => (intro W' hW; go_simp; try with_reducible rfl)
              refine tk 7 ?v152 ?y152 ?r152
              case y152 => (intro W' hW; go_simp; try with_reducible rfl)
              refine wpAnyH_take (i := 8) (v := undef) rfl (by kernel_rfl) (by kernel_rfl) (by kernel_rfl) (fun _ _ _ h => h) (Or.inr ⟨by rfl, rfl⟩) (by assumption) ?r153
              try simp only [Act.put, List.getElem_toArray, List.getElem_cons_zero, List.getElem_cons_succ, List.setIfInBounds_toArray, List.set_cons_zero, List.set_cons_succ]
              refine tk 9 ?v154 ?y154 ?r154
              case y154 => (intro W' hW; go_simp; try with_reducible rfl)
              refine tk 10 ?v155 ?y155 ?r155
              case y155 => (intro W' hW; go_simp; try with_reducible rfl)
              refine wpAnyH_take (i := 11) (v := undef) rfl (by kernel_rfl) (by kernel_rfl) (by kernel_rfl) (fun _ _ _ h => h) (Or.inr ⟨by rfl, rfl⟩) (by assumption) ?r156
              try simp only [Act.put, List.getElem_toArray, List.getElem_cons_zero, List.getElem_cons_succ, List.setIfInBounds_toArray, List.set_cons_zero, List.set_cons_succ]
              refine wpAnyH_take (i := 12) (v := undef) rfl (by kernel_rfl) (by kernel_rfl) (by kernel_rfl) (fun _ _ _ h => h) (Or.inr ⟨by rfl, rfl⟩) (by assumption) ?r157
              refine wpAnyH_take (i := 13) (v := undef) rfl (by kernel_rfl) (by kernel_rfl) (by kernel_rfl) (fun _ _ _ h => h) (Or.inr ⟨by rfl, rfl⟩) (by assumption) ?r158
              refine wpAnyH_take (i := 14) (v := undef) rfl (by kernel_rfl) (by kernel_rfl) (by kernel_rfl) (fun _ _ _ h => h) (Or.inr ⟨by rfl, rfl⟩) (by assumption) ?r159
              try simp only [Act.put, List.getElem_toArray, List.getElem_cons_zero, List.getElem_cons_succ, List.setIfInBounds_toArray, List.set_cons_zero, List.set_cons_succ]
              refine wpAnyH_take (i := 15) (v := undef) rfl (by kernel_rfl) (by kernel_rfl) (by kernel_rfl) (fun _ _ _ h => h) (Or.inr ⟨by rfl, rfl⟩) (by assumption) ?r160
              refine wpAnyH_take (i := 16) (v := undef) rfl (by kernel_rfl) (by kernel_rfl) (by kernel_rfl) (fun _ _ _ h => h) (Or.inr ⟨by rfl, rfl⟩) (by assumption) ?r161
              refine tk 17 ?v162 ?y162 ?r162
              case y162 => (intro W' hW; go_simp; try with_reducible rfl)
              try simp only [Act.put, List.getElem_toArray, List.getElem_cons_zero, List.getElem_cons_succ, List.setIfInBounds_toArray, List.set_cons_zero, List.set_cons_succ]
              refine wpAnyH_ready (rs := [18]) (by kernel_rfl) (by simp) ?_
              refine AllReadyH.cons rfl (fun K hK => ?_) ?nil18
              case nil18 => exact AllReadyH.nil
              go_simp
              refine hK.out _ _ ⟨by rw [setRow_other _ _ _ _ (by omega)]; exact S3.r6⟩ (fun hHeld => ?_)
              clear hK K
              refine tk 19 ?v163 ?y163 ?r163
              case y163 => (intro W' hW; go_simp; try with_reducible rfl)
              try simp only [Act.put, List.getElem_toArray, List.getElem_cons_zero, List.getElem_cons_succ, List.setIfInBounds_toArray, List.set_cons_zero, List.set_cons_succ]
              refine wpAnyH_done (by kernel_rfl) ?_ _
              go_wp2
              refine bodyPost_ret (res173 Tryz.results100 _ _ w.heap.size (rhA hh) _ rfl rfl rfl (setRow_heap w3.drew _ _ _ 173 _ S3.r4)) rfl ⟨?_, ?_⟩
              · exact congrArg (fun x => Ending.returned (.tuple #[.agg (rhA hh), .bool x])) (by rw [HB.out, hk]; simp)
              · exact Below.setRow S3.bl.drew (Nat.le_refl _) _
            case true =>
              refine wp_region_held_drew (S := fun W' => RdC W' (w.heap.size + 1) hh) (by kernel_rfl) (RdC.mk S3.r6) (fun hHeld => ?_)
              refine tk 0 ?v164 ?y164 ?r164
              case y164 => (intro W' hW; have hb6 : blk W' (w.heap.size + 1) = _ := hW.r6; go_simp; try with_reducible rfl)
              refine tk 1 ?v165 ?y165 ?r165
              case y165 => (intro W' hW; go_simp; try with_reducible rfl)
              refine tk 2 ?v166 ?y166 ?r166
              case y166 => (intro W' hW; go_simp; try with_reducible rfl)
              try simp only [Act.put, List.getElem_toArray, List.getElem_cons_zero, List.getElem_cons_succ, List.setIfInBounds_toArray, List.set_cons_zero, List.set_cons_succ]
              refine tk 3 ?v167 ?y167 ?r167
              case y167 => (intro W' hW; go_simp; try with_reducible rfl)
              refine tk 4 ?v168 ?y168 ?r168
              case y168 => (intro W' hW; go_simp; try with_reducible rfl)
              refine tk 5 ?v169 ?y169 ?r169
              case y169 => (intro W' hW; go_simp; try with_reducible rfl)
              try simp only [Act.put, List.getElem_toArray, List.getElem_cons_zero, List.getElem_cons_succ, List.setIfInBounds_toArray, List.set_cons_zero, List.set_cons_succ]
              refine tk 6 ?v170 ?y170 ?r170
              case y170 => (intro W' hW; go_simp; try with_reducible rfl)
              refine tk 7 ?v171 ?y171 ?r171
              case y171 => (intro W' hW; go_simp; try with_reducible rfl)
              refine tk 8 ?v172 ?y172 ?r172
              case y172 => (intro W' hW; go_simp; try with_reducible rfl)
              try simp only [Act.put, List.getElem_toArray, List.getElem_cons_zero, List.getElem_cons_succ, List.setIfInBounds_toArray, List.set_cons_zero, List.set_cons_succ]
              refine tk 9 ?v173 ?y173 ?r173
              case y173 => (intro W' hW; go_simp; try with_reducible rfl)
              refine tk 10 ?v174 ?y174 ?r174
              case y174 => (intro W' hW; go_simp; try with_reducible rfl)
              refine wpAnyH_take (i := 11) (v := undef) rfl (by kernel_rfl) (by kernel_rfl) (by kernel_rfl) (fun _ _ _ h => h) (Or.inr ⟨by rfl, rfl⟩) (by assumption) ?r175
              try simp only [Act.put, List.getElem_toArray, List.getElem_cons_zero, List.getElem_cons_succ, List.setIfInBounds_toArray, List.set_cons_zero, List.set_cons_succ]
              refine wpAnyH_take (i := 12) (v := undef) rfl (by kernel_rfl) (by kernel_rfl) (by kernel_rfl) (fun _ _ _ h => h) (Or.inr ⟨by rfl, rfl⟩) (by assumption) ?r176
              refine wpAnyH_take (i := 13) (v := undef) rfl (by kernel_rfl) (by kernel_rfl) (by kernel_rfl) (fun _ _ _ h => h) (Or.inr ⟨by rfl, rfl⟩) (by assumption) ?r177
              refine wpAnyH_take (i := 14) (v := undef) rfl (by kernel_rfl) (by kernel_rfl) (by kernel_rfl) (fun _ _ _ h => h) (Or.inr ⟨by rfl, rfl⟩) (by assumption) ?r178
              try simp only [Act.put, List.getElem_toArray, List.getElem_cons_zero, List.getElem_cons_succ, List.setIfInBounds_toArray, List.set_cons_zero, List.set_cons_succ]
              refine wpAnyH_take (i := 15) (v := undef) rfl (by kernel_rfl) (by kernel_rfl) (by kernel_rfl) (fun _ _ _ h => h) (Or.inr ⟨by rfl, rfl⟩) (by assumption) ?r179
              refine wpAnyH_take (i := 16) (v := undef) rfl (by kernel_rfl) (by kernel_rfl) (by kernel_rfl) (fun _ _ _ h => h) (Or.inr ⟨by rfl, rfl⟩) (by assumption) ?r180
              refine tk 17 ?v181 ?y181 ?r181
              case y181 => (intro W' hW; go_simp; try with_reducible rfl)
              try simp only [Act.put, List.getElem_toArray, List.getElem_cons_zero, List.getElem_cons_succ, List.setIfInBounds_toArray, List.set_cons_zero, List.set_cons_succ]
              refine wpAnyH_ready (rs := [18]) (by kernel_rfl) (by simp) ?_
              refine AllReadyH.cons rfl (fun K hK => ?_) ?nil18
              case nil18 => exact AllReadyH.nil
              go_simp
              refine hK.out _ _ ⟨by rw [setRow_other _ _ _ _ (by omega)]; exact S3.r6⟩ (fun hHeld => ?_)
              clear hK K
              refine tk 19 ?v182 ?y182 ?r182
              case y182 => (intro W' hW; go_simp; try with_reducible rfl)
              try simp only [Act.put, List.getElem_toArray, List.getElem_cons_zero, List.getElem_cons_succ, List.setIfInBounds_toArray, List.set_cons_zero, List.set_cons_succ]
              refine wpAnyH_done (by kernel_rfl) ?_ _
              go_wp2
              refine bodyPost_ret (res173 Tryz.results100 _ _ w.heap.size (rhA hh) _ rfl rfl rfl (setRow_heap w3.drew _ _ _ 173 _ S3.r4)) rfl ⟨?_, ?_⟩
              · exact congrArg (fun x => Ending.returned (.tuple #[.agg (rhA hh), .bool x])) (by rw [HB.out, hk]; simp)
              · exact Below.setRow S3.bl.drew (Nat.le_refl _) _
      · have hk0 : (if hh.ret = true then decide (1 ≤ hh.alg ∧ hh.alg ≤ 3) else false && decide (0 < hh.alg)) = false := by rw [if_pos hr, decide_eq_false_iff_not]; omega
        have HK : Hid _ := hk0
        clear hr hk0
        go_wp2_with fail
        have hk := HK.out
        clear d0 d1 d2 d3 d4 d5 d6 d7 d8 d9 d10
        generalize w2.drew = w3 at *
        have hb4 : blk w3 w.heap.size = some (.cells zrhA 173 (0, 0)) := S3.r4
        have hb2 := HB2.out
        clear HB2
        cases b1
        case false =>
          refine wp_region_held_drew (S := fun W' => RdC W' (w.heap.size + 1) hh) (by kernel_rfl) (RdC.mk S3.r6) (fun hHeld => ?_)
          refine tk 0 ?v183 ?y183 ?r183
          case y183 => (intro W' hW; have hb6 : blk W' (w.heap.size + 1) = _ := hW.r6; go_simp; try with_reducible rfl)
          refine tk 1 ?v184 ?y184 ?r184
          case y184 => (intro W' hW; go_simp; try with_reducible rfl)
          refine tk 2 ?v185 ?y185 ?r185
          case y185 => (intro W' hW; go_simp; try with_reducible rfl)
          try simp only [Act.put, List.getElem_toArray, List.getElem_cons_zero, List.getElem_cons_succ, List.setIfInBounds_toArray, List.set_cons_zero, List.set_cons_succ]
          refine wpAnyH_take (i := 3) (v := undef) rfl (by kernel_rfl) (by kernel_rfl) (by kernel_rfl) (fun _ _ _ h => h) (Or.inr ⟨by rfl, rfl⟩) (by assumption) ?r186
          refine wpAnyH_take (i := 4) (v := undef) rfl (by kernel_rfl) (by kernel_rfl) (by kernel_rfl) (fun _ _ _ h => h) (Or.inr ⟨by rfl, rfl⟩) (by assumption) ?r187
          refine wpAnyH_take (i := 5) (v := undef) rfl (by kernel_rfl) (by kernel_rfl) (by kernel_rfl) (fun _ _ _ h => h) (Or.inr ⟨by rfl, rfl⟩) (by assumption) ?r188
          try simp only [Act.put, List.getElem_toArray, List.getElem_cons_zero, List.getElem_cons_succ, List.setIfInBounds_toArray, List.set_cons_zero, List.set_cons_succ]
          refine tk 6 ?v189 ?y189 ?r189
          case y189 => (intro W' hW; go_simp; try with_reducible rfl)
          refine tk 7 ?v190 ?y190 ?r190
          case y190 => (intro W' hW; go_simp; try with_reducible rfl)
          refine wpAnyH_take (i := 8) (v := undef) rfl (by kernel_rfl) (by kernel_rfl) (by kernel_rfl) (fun _ _ _ h => h) (Or.inr ⟨by rfl, rfl⟩) (by assumption) ?r191
          try simp only [Act.put, List.getElem_toArray, List.getElem_cons_zero, List.getElem_cons_succ, List.setIfInBounds_toArray, List.set_cons_zero, List.set_cons_succ]
          refine tk 9 ?v192 ?y192 ?r192
          case y192 => (intro W' hW; go_simp; try with_reducible rfl)
          refine tk 10 ?v193 ?y193 ?r193
          case y193 => (intro W' hW; go_simp; try with_reducible rfl)
          refine wpAnyH_take (i := 11) (v := undef) rfl (by kernel_rfl) (by kernel_rfl) (by kernel_rfl) (fun _ _ _ h => h) (Or.inr ⟨by rfl, rfl⟩) (by assumption) ?r194
          try simp only [Act.put, List.getElem_toArray, List.getElem_cons_zero, List.getElem_cons_succ, List.setIfInBounds_toArray, List.set_cons_zero, List.set_cons_succ]
          refine wpAnyH_take (i := 12) (v := undef) rfl (by kernel_rfl) (by kernel_rfl) (by kernel_rfl) (fun _ _ _ h => h) (Or.inr ⟨by rfl, rfl⟩) (by assumption) ?r195
          refine wpAnyH_take (i := 13) (v := undef) rfl (by kernel_rfl) (by kernel_rfl) (by kernel_rfl) (fun _ _ _ h => h) (Or.inr ⟨by rfl, rfl⟩) (by assumption) ?r196
          refine wpAnyH_take (i := 14) (v := undef) rfl (by kernel_rfl) (by kernel_rfl) (by kernel_rfl) (fun _ _ _ h => h) (Or.inr ⟨by rfl, rfl⟩) (by assumption) ?r197
          try simp only [Act.put, List.getElem_toArray, List.getElem_cons_zero, List.getElem_cons_succ, List.setIfInBounds_toArray, List.set_cons_zero, List.set_cons_succ]
          refine wpAnyH_take (i := 15) (v := undef) rfl (by kernel_rfl) (by kernel_rfl) (by kernel_rfl) (fun _ _ _ h => h) (Or.inr ⟨by rfl, rfl⟩) (by assumption) ?r198
          refine wpAnyH_take (i := 16) (v := undef) rfl (by kernel_rfl) (by kernel_rfl) (by kernel_rfl) (fun _ _ _ h => h) (Or.inr ⟨by rfl, rfl⟩) (by assumption) ?r199
          refine tk 17 ?v200 ?y200 ?r200
          case y200 => (intro W' hW; go_simp; try with_reducible rfl)
          try simp only [Act.put, List.getElem_toArray, List.getElem_cons_zero, List.getElem_cons_succ, List.setIfInBounds_toArray, List.set_cons_zero, List.set_cons_succ]
          refine wpAnyH_ready (rs := [18]) (by kernel_rfl) (by simp) ?_
          refine AllReadyH.cons rfl (fun K hK => ?_) ?nil18
          case nil18 => exact AllReadyH.nil
          go_simp
          refine hK.out _ _ ⟨by rw [setRow_other _ _ _ _ (by omega)]; exact S3.r6⟩ (fun hHeld => ?_)
          clear hK K
          refine tk 19 ?v201 ?y201 ?r201
          case y201 => (intro W' hW; go_simp; try with_reducible rfl)
          try simp only [Act.put, List.getElem_toArray, List.getElem_cons_zero, List.getElem_cons_succ, List.setIfInBounds_toArray, List.set_cons_zero, List.set_cons_succ]
          refine wpAnyH_done (by kernel_rfl) ?_ _
          go_wp2
          refine bodyPost_ret (res173 Tryz.results100 _ _ w.heap.size (rhA hh) _ rfl rfl rfl (setRow_heap w3.drew _ _ _ 173 _ S3.r4)) rfl ⟨?_, ?_⟩
          · exact congrArg (fun x => Ending.returned (.tuple #[.agg (rhA hh), .bool x])) (by rw [HB.out, hk]; simp)
          · exact Below.setRow S3.bl.drew (Nat.le_refl _) _
        case true =>
          cases b2
          case false =>
            refine wp_region_held_drew (S := fun W' => RdC W' (w.heap.size + 1) hh) (by kernel_rfl) (RdC.mk S3.r6) (fun hHeld => ?_)
            refine tk 0 ?v202 ?y202 ?r202
            case y202 => (intro W' hW; have hb6 : blk W' (w.heap.size + 1) = _ := hW.r6; go_simp; try with_reducible rfl)
            refine tk 1 ?v203 ?y203 ?r203
            case y203 => (intro W' hW; go_simp; try with_reducible rfl)
            refine tk 2 ?v204 ?y204 ?r204
            case y204 => (intro W' hW; go_simp; try with_reducible rfl)
            try simp only [Act.put, List.getElem_toArray, List.getElem_cons_zero, List.getElem_cons_succ, List.setIfInBounds_toArray, List.set_cons_zero, List.set_cons_succ]
            refine tk 3 ?v205 ?y205 ?r205
            case y205 => (intro W' hW; go_simp; try with_reducible rfl)
            refine tk 4 ?v206 ?y206 ?r206
            case y206 => (intro W' hW; go_simp; try with_reducible rfl)
            refine tk 5 ?v207 ?y207 ?r207
            case y207 => (intro W' hW; go_simp; try with_reducible rfl)
            try simp only [Act.put, List.getElem_toArray, List.getElem_cons_zero, List.getElem_cons_succ, List.setIfInBounds_toArray, List.set_cons_zero, List.set_cons_succ]
            refine tk 6 ?v208 ?y208 ?r208
            case y208 => (intro W' hW; go_simp; try with_reducible rfl)
            refine tk 7 ?v209 ?y209 ?r209
            case y209 => (intro W' hW; go_simp; try with_reducible rfl)
            refine wpAnyH_take (i := 8) (v := undef) rfl (by kernel_rfl) (by kernel_rfl) (by kernel_rfl) (fun _ _ _ h => h) (Or.inr ⟨by rfl, rfl⟩) (by assumption) ?r210
            try simp only [Act.put, List.getElem_toArray, List.getElem_cons_zero, List.getElem_cons_succ, List.setIfInBounds_toArray, List.set_cons_zero, List.set_cons_succ]
            refine tk 9 ?v211 ?y211 ?r211
            case y211 => (intro W' hW; go_simp; try with_reducible rfl)
            refine tk 10 ?v212 ?y212 ?r212
            case y212 => (intro W' hW; go_simp; try with_reducible rfl)
            refine wpAnyH_take (i := 11) (v := undef) rfl (by kernel_rfl) (by kernel_rfl) (by kernel_rfl) (fun _ _ _ h => h) (Or.inr ⟨by rfl, rfl⟩) (by assumption) ?r213
            try simp only [Act.put, List.getElem_toArray, List.getElem_cons_zero, List.getElem_cons_succ, List.setIfInBounds_toArray, List.set_cons_zero, List.set_cons_succ]
            refine wpAnyH_take (i := 12) (v := undef) rfl (by kernel_rfl) (by kernel_rfl) (by kernel_rfl) (fun _ _ _ h => h) (Or.inr ⟨by rfl, rfl⟩) (by assumption) ?r214
            refine wpAnyH_take (i := 13) (v := undef) rfl (by kernel_rfl) (by kernel_rfl) (by kernel_rfl) (fun _ _ _ h => h) (Or.inr ⟨by rfl, rfl⟩) (by assumption) ?r215
            refine wpAnyH_take (i := 14) (v := undef) rfl (by kernel_rfl) (by kernel_rfl) (by kernel_rfl) (fun _ _ _ h => h) (Or.inr ⟨by rfl, rfl⟩) (by assumption) ?r216
            try simp only [Act.put, List.getElem_toArray, List.getElem_cons_zero, List.getElem_cons_succ, List.setIfInBounds_toArray, List.set_cons_zero, List.set_cons_succ]
            refine wpAnyH_take (i := 15) (v := undef) rfl (by kernel_rfl) (by kernel_rfl) (by kernel_rfl) (fun _ _ _ h => h) (Or.inr ⟨by rfl, rfl⟩) (by assumption) ?r217
            refine wpAnyH_take (i := 16) (v := undef) rfl (by kernel_rfl) (by kernel_rfl) (by kernel_rfl) (fun _ _ _ h => h) (Or.inr ⟨by rfl, rfl⟩) (by assumption) ?r218
            refine tk 17 ?v219 ?y219 ?r219
            case y219 => (intro W' hW; go_simp; try with_reducible rfl)
            try simp only [Act.put, List.getElem_toArray, List.getElem_cons_zero, List.getElem_cons_succ, List.setIfInBounds_toArray, List.set_cons_zero, List.set_cons_succ]
            refine wpAnyH_ready (rs := [18]) (by kernel_rfl) (by simp) ?_
            refine AllReadyH.cons rfl (fun K hK => ?_) ?nil18
            case nil18 => exact AllReadyH.nil
            go_simp
            refine hK.out _ _ ⟨by rw [setRow_other _ _ _ _ (by omega)]; exact S3.r6⟩ (fun hHeld => ?_)
            clear hK K
            refine tk 19 ?v220 ?y220 ?r220
            case y220 => (intro W' hW; go_simp; try with_reducible rfl)
            try simp only [Act.put, List.getElem_toArray, List.getElem_cons_zero, List.getElem_cons_succ, List.setIfInBounds_toArray, List.set_cons_zero, List.set_cons_succ]
            refine wpAnyH_done (by kernel_rfl) ?_ _
            go_wp2
            refine bodyPost_ret (res173 Tryz.results100 _ _ w.heap.size (rhA hh) _ rfl rfl rfl (setRow_heap w3.drew _ _ _ 173 _ S3.r4)) rfl ⟨?_, ?_⟩
            · exact congrArg (fun x => Ending.returned (.tuple #[.agg (rhA hh), .bool x])) (by rw [HB.out, hk]; simp)
            · exact Below.setRow S3.bl.drew (Nat.le_refl _) _
          case true =>
            refine wp_region_held_drew (S := fun W' => RdC W' (w.heap.size + 1) hh) (by kernel_rfl) (RdC.mk S3.r6) (fun hHeld => ?_)
            refine tk 0 ?v221 ?y221 ?r221
            case y221 => (intro W' hW; have hb6 : blk W' (w.heap.size + 1) = _ := hW.r6; go_simp; try with_reducible rfl)
            refine tk 1 ?v222 ?y222 ?r222
            case y222 => (intro W' hW; go_simp; try with_reducible rfl)
            refine tk 2 ?v223 ?y223 ?r223
            case y223 => (intro W' hW; go_simp; try with_reducible rfl)
            try simp only [Act.put, List.getElem_toArray, List.getElem_cons_zero, List.getElem_cons_succ, List.setIfInBounds_toArray, List.set_cons_zero, List.set_cons_succ]
            refine tk 3 ?v224 ?y224 ?r224
            case y224 => (intro W' hW; go_simp; try with_reducible rfl)
            refine tk 4 ?v225 ?y225 ?r225
            case y225 => (intro W' hW; go_simp; try with_reducible rfl)
            refine tk 5 ?v226 ?y226 ?r226
            case y226 => (intro W' hW; go_simp; try with_reducible rfl)
            try simp only [Act.put, List.getElem_toArray, List.getElem_cons_zero, List.getElem_cons_succ, List.setIfInBounds_toArray, List.set_cons_zero, List.set_cons_succ]
            refine tk 6 ?v227 ?y227 ?r227
            case y227 => (intro W' hW; go_simp; try with_reducible rfl)
            refine tk 7 ?v228 ?y228 ?r228
            case y228 => (intro W' hW; go_simp; try with_reducible rfl)
            refine tk 8 ?v229 ?y229 ?r229
            case y229 => (intro W' hW; go_simp; try with_reducible rfl)
            try simp only [Act.put, List.getElem_toArray, List.getElem_cons_zero, List.getElem_cons_succ, List.setIfInBounds_toArray, List.set_cons_zero, List.set_cons_succ]
            refine tk 9 ?v230 ?y230 ?r230
            case y230 => (intro W' hW; go_simp; try with_reducible rfl)
            refine tk 10 ?v231 ?y231 ?r231
            case y231 => (intro W' hW; go_simp; try with_reducible rfl)
            refine wpAnyH_take (i := 11) (v := undef) rfl (by kernel_rfl) (by kernel_rfl) (by kernel_rfl) (fun _ _ _ h => h) (Or.inr ⟨by rfl, rfl⟩) (by assumption) ?r232
            try simp only [Act.put, List.getElem_toArray, List.getElem_cons_zero, List.getElem_cons_succ, List.setIfInBounds_toArray, List.set_cons_zero, List.set_cons_succ]
            refine wpAnyH_take (i := 12) (v := undef) rfl (by kernel_rfl) (by kernel_rfl) (by kernel_rfl) (fun _ _ _ h => h) (Or.inr ⟨by rfl, rfl⟩) (by assumption) ?r233
            refine wpAnyH_take (i := 13) (v := undef) rfl (by kernel_rfl) (by kernel_rfl) (by kernel_rfl) (fun _ _ _ h => h) (Or.inr ⟨by rfl, rfl⟩) (by assumption) ?r234
            refine wpAnyH_take (i := 14) (v := undef) rfl (by kernel_rfl) (by kernel_rfl) (by kernel_rfl) (fun _ _ _ h => h) (Or.inr ⟨by rfl, rfl⟩) (by assumption) ?r235
            try simp only [Act.put, List.getElem_toArray, List.getElem_cons_zero, List.getElem_cons_succ, List.setIfInBounds_toArray, List.set_cons_zero, List.set_cons_succ]
            refine wpAnyH_take (i := 15) (v := undef) rfl (by kernel_rfl) (by kernel_rfl) (by kernel_rfl) (fun _ _ _ h => h) (Or.inr ⟨by rfl, rfl⟩) (by assumption) ?r236
            refine wpAnyH_take (i := 16) (v := undef) rfl (by kernel_rfl) (by kernel_rfl) (by kernel_rfl) (fun _ _ _ h => h) (Or.inr ⟨by rfl, rfl⟩) (by assumption) ?r237
            refine tk 17 ?v238 ?y238 ?r238
            case y238 => (intro W' hW; go_simp; try with_reducible rfl)
            try simp only [Act.put, List.getElem_toArray, List.getElem_cons_zero, List.getElem_cons_succ, List.setIfInBounds_toArray, List.set_cons_zero, List.set_cons_succ]
            refine wpAnyH_ready (rs := [18]) (by kernel_rfl) (by simp) ?_
            refine AllReadyH.cons rfl (fun K hK => ?_) ?nil18
            case nil18 => exact AllReadyH.nil
            go_simp
            refine hK.out _ _ ⟨by rw [setRow_other _ _ _ _ (by omega)]; exact S3.r6⟩ (fun hHeld => ?_)
            clear hK K
            refine tk 19 ?v239 ?y239 ?r239
            case y239 => (intro W' hW; go_simp; try with_reducible rfl)
            try simp only [Act.put, List.getElem_toArray, List.getElem_cons_zero, List.getElem_cons_succ, List.setIfInBounds_toArray, List.set_cons_zero, List.set_cons_succ]
            refine wpAnyH_done (by kernel_rfl) ?_ _
            go_wp2
            refine bodyPost_ret (res173 Tryz.results100 _ _ w.heap.size (rhA hh) _ rfl rfl rfl (setRow_heap w3.drew _ _ _ 173 _ S3.r4)) rfl ⟨?_, ?_⟩
            · exact congrArg (fun x => Ending.returned (.tuple #[.agg (rhA hh), .bool x])) (by rw [HB.out, hk]; simp)
            · exact Below.setRow S3.bl.drew (Nat.le_refl _) _
  case true =>
    by_cases h0 : 0 < (hh.alg : Int)
    · have h0n : 0 < hh.alg := by omega
      have h0d : decide (0 < hh.alg) = true := by simpa using h0n
      refine wp_region_held_drew (S := fun W' => RdS w W' hh) (by kernel_rfl) S2.drew (fun hHeld => ?_)
      refine tk 0 ?v240 ?y240 ?r240
      case y240 => (intro W' hW; go_simp; try with_reducible rfl)
      refine tk 1 ?v241 ?y241 ?r241
      case y241 => (intro W' hW; obtain ⟨d0, d1, d2, d3, d4, d5, d6, d7, d8, d9, d10⟩ := hW.cs; go_simp; try with_reducible rfl)
      refine tk 3 ?v242 ?y242 ?r242
      case y242 => (intro W' hW; go_simp; try with_reducible rfl)
      try simp only [Act.put, List.getElem_toArray, List.getElem_cons_zero, List.getElem_cons_succ, List.setIfInBounds_toArray, List.set_cons_zero, List.set_cons_succ]
      refine tk 4 ?v243 ?y243 ?r243
      case y243 => (intro W' hW; obtain ⟨d0, d1, d2, d3, d4, d5, d6, d7, d8, d9, d10⟩ := hW.cs; go_simp; try with_reducible rfl)
      try simp only [Act.put, List.getElem_toArray, List.getElem_cons_zero, List.getElem_cons_succ, List.setIfInBounds_toArray, List.set_cons_zero, List.set_cons_succ]
      refine wpAnyH_ready (rs := [2]) (by kernel_rfl) (by simp) ?_
      refine AllReadyH.cons rfl (fun K hK => ?_) ?nil2
      case nil2 => exact AllReadyH.nil
      go_simp
      refine (rAlg_any _ _).mono ?_
      rintro e wa ⟨rfl, hwa⟩
      subst hwa
      go_wp2_with fail
      refine hK.out _ _ hHeld (fun hHeld => ?_)
      clear hK K
      refine tk 5 ?v244 ?y244 ?r244
      case y244 => (intro W' hW; go_simp; try with_reducible rfl)
      refine tk 6 ?v245 ?y245 ?r245
      case y245 => (intro W' hW; go_simp; try with_reducible rfl)
      refine tk 7 ?v246 ?y246 ?r246
      case y246 => (intro W' hW; go_simp; try with_reducible rfl)
      try simp only [Act.put, List.getElem_toArray, List.getElem_cons_zero, List.getElem_cons_succ, List.setIfInBounds_toArray, List.set_cons_zero, List.set_cons_succ]
      refine tk 8 ?v247 ?y247 ?r247
      case y247 => (intro W' hW; obtain ⟨d0, d1, d2, d3, d4, d5, d6, d7, d8, d9, d10⟩ := hW.cs; go_simp; try with_reducible rfl)
      refine tk 9 ?v248 ?y248 ?r248
      case y248 => (intro W' hW; go_simp; try with_reducible rfl)
      refine tk 10 ?v249 ?y249 ?r249
      case y249 => (intro W' hW; go_simp; try with_reducible rfl)
      try simp only [Act.put, List.getElem_toArray, List.getElem_cons_zero, List.getElem_cons_succ, List.setIfInBounds_toArray, List.set_cons_zero, List.set_cons_succ]
      refine tk 11 ?v250 ?y250 ?r250
      case y250 => (intro W' hW; go_simp; try with_reducible rfl)
      try simp only [Act.put, List.getElem_toArray, List.getElem_cons_zero, List.getElem_cons_succ, List.setIfInBounds_toArray, List.set_cons_zero, List.set_cons_succ]
      refine wpAnyH_done (by kernel_rfl) ?_ _
      have S3 := hHeld
      clear hHeld S2
      obtain ⟨d0, d1, d2, d3, d4, d5, d6, d7, d8, d9, d10⟩ := S3.cs
      cases hr : hh.ret
      case false =>
        rw [hr] at d7
        have hk : (if hh.ret = true then decide (1 ≤ hh.alg ∧ hh.alg ≤ 3) else true && decide (0 < hh.alg)) = true := by rw [if_neg (by rw [hr]; decide), Bool.true_and, decide_eq_true_eq]; omega
        have HK : Hid _ := hk
        clear hk hr
        go_wp2_with fail
        have hk := HK.out
        clear d0 d1 d2 d3 d4 d5 d6 d7 d8 d9 d10
        generalize w2.drew = w3 at *
        have hb4 : blk w3 w.heap.size = some (.cells zrhA 173 (0, 0)) := S3.r4
        have hb2 := HB2.out
        clear HB2
        cases b1
        case false =>
          refine wp_region_held_drew (S := fun W' => RdC W' (w.heap.size + 1) hh) (by kernel_rfl) (RdC.mk S3.r6) (fun hHeld => ?_)
          refine tk 0 ?v251 ?y251 ?r251
          case y251 => (intro W' hW; have hb6 : blk W' (w.heap.size + 1) = _ := hW.r6; go_simp; try with_reducible rfl)
          refine tk 1 ?v252 ?y252 ?r252
          case y252 => (intro W' hW; go_simp; try with_reducible rfl)
          refine tk 2 ?v253 ?y253 ?r253
          case y253 => (intro W' hW; go_simp; try with_reducible rfl)
          try simp only [Act.put, List.getElem_toArray, List.getElem_cons_zero, List.getElem_cons_succ, List.setIfInBounds_toArray, List.set_cons_zero, List.set_cons_succ]
          refine wpAnyH_take (i := 3) (v := undef) rfl (by kernel_rfl) (by kernel_rfl) (by kernel_rfl) (fun _ _ _ h => h) (Or.inr ⟨by rfl, rfl⟩) (by assumption) ?r254
          refine wpAnyH_take (i := 4) (v := undef) rfl (by kernel_rfl) (by kernel_rfl) (by kernel_rfl) (fun _ _ _ h => h) (Or.inr ⟨by rfl, rfl⟩) (by assumption) ?r255
          refine wpAnyH_take (i := 5) (v := undef) rfl (by kernel_rfl) (by kernel_rfl) (by kernel_rfl) (fun _ _ _ h => h) (Or.inr ⟨by rfl, rfl⟩) (by assumption) ?r256
          try simp only [Act.put, List.getElem_toArray, List.getElem_cons_zero, List.getElem_cons_succ, List.setIfInBounds_toArray, List.set_cons_zero, List.set_cons_succ]
          refine tk 6 ?v257 ?y257 ?r257
          case y257 => (intro W' hW; go_simp; try with_reducible rfl)
          refine tk 7 ?v258 ?y258 ?r258
          case y258 => (intro W' hW; go_simp; try with_reducible rfl)
          refine wpAnyH_take (i := 8) (v := undef) rfl (by kernel_rfl) (by kernel_rfl) (by kernel_rfl) (fun _ _ _ h => h) (Or.inr ⟨by rfl, rfl⟩) (by assumption) ?r259
          try simp only [Act.put, List.getElem_toArray, List.getElem_cons_zero, List.getElem_cons_succ, List.setIfInBounds_toArray, List.set_cons_zero, List.set_cons_succ]
          refine tk 9 ?v260 ?y260 ?r260
          case y260 => (intro W' hW; go_simp; try with_reducible rfl)
          refine tk 10 ?v261 ?y261 ?r261
          case y261 => (intro W' hW; go_simp; try with_reducible rfl)
          refine wpAnyH_take (i := 11) (v := undef) rfl (by kernel_rfl) (by kernel_rfl) (by kernel_rfl) (fun _ _ _ h => h) (Or.inr ⟨by rfl, rfl⟩) (by assumption) ?r262
          try simp only [Act.put, List.getElem_toArray, List.getElem_cons_zero, List.getElem_cons_succ, List.setIfInBounds_toArray, List.set_cons_zero, List.set_cons_succ]
          refine wpAnyH_take (i := 12) (v := undef) rfl (by kernel_rfl) (by kernel_rfl) (by kernel_rfl) (fun _ _ _ h => h) (Or.inr ⟨by rfl, rfl⟩) (by assumption) ?r263
          refine wpAnyH_take (i := 13) (v := undef) rfl (by kernel_rfl) (by kernel_rfl) (by kernel_rfl) (fun _ _ _ h => h) (Or.inr ⟨by rfl, rfl⟩) (by assumption) ?r264
          refine wpAnyH_take (i := 14) (v := undef) rfl (by kernel_rfl) (by kernel_rfl) (by kernel_rfl) (fun _ _ _ h => h) (Or.inr ⟨by rfl, rfl⟩) (by assumption) ?r265
          try simp only [Act.put, List.getElem_toArray, List.getElem_cons_zero, List.getElem_cons_succ, List.setIfInBounds_toArray, List.set_cons_zero, List.set_cons_succ]
          refine wpAnyH_take (i := 15) (v := undef) rfl (by kernel_rfl) (by kernel_rfl) (by kernel_rfl) (fun _ _ _ h => h) (Or.inr ⟨by rfl, rfl⟩) (by assumption) ?r266
          refine wpAnyH_take (i := 16) (v := undef) rfl (by kernel_rfl) (by kernel_rfl) (by kernel_rfl) (fun _ _ _ h => h) (Or.inr ⟨by rfl, rfl⟩) (by assumption) ?r267
          refine tk 17 ?v268 ?y268 ?r268
          case y268 => (intro W' hW; go_simp; try with_reducible rfl)
          try simp only [Act.put, List.getElem_toArray, List.getElem_cons_zero, List.getElem_cons_succ, List.setIfInBounds_toArray, List.set_cons_zero, List.set_cons_succ]
          refine wpAnyH_ready (rs := [18]) (by kernel_rfl) (by simp) ?_
          refine AllReadyH.cons rfl (fun K hK => ?_) ?nil18
          case nil18 => exact AllReadyH.nil
          go_simp
          refine hK.out _ _ ⟨by rw [setRow_other _ _ _ _ (by omega)]; exact S3.r6⟩ (fun hHeld => ?_)
          clear hK K
          refine tk 19 ?v269 ?y269 ?r269
          case y269 => (intro W' hW; go_simp; try with_reducible rfl)
          try simp only [Act.put, List.getElem_toArray, List.getElem_cons_zero, List.getElem_cons_succ, List.setIfInBounds_toArray, List.set_cons_zero, List.set_cons_succ]
          refine wpAnyH_done (by kernel_rfl) ?_ _
          go_wp2
          refine bodyPost_ret (res173 Tryz.results100 _ _ w.heap.size (rhA hh) _ rfl rfl rfl (setRow_heap w3.drew _ _ _ 173 _ S3.r4)) rfl ⟨?_, ?_⟩
          · exact congrArg (fun x => Ending.returned (.tuple #[.agg (rhA hh), .bool x])) (by rw [HB.out, hk]; simp)
          · exact Below.setRow S3.bl.drew (Nat.le_refl _) _
        case true =>
          cases b2
          case false =>
            refine wp_region_held_drew (S := fun W' => RdC W' (w.heap.size + 1) hh) (by kernel_rfl) (RdC.mk S3.r6) (fun hHeld => ?_)
            refine tk 0 ?v270 ?y270 ?r270
            case y270 => (intro W' hW; have hb6 : blk W' (w.heap.size + 1) = _ := hW.r6; go_simp; try with_reducible rfl)
            refine tk 1 ?v271 ?y271 ?r271
            case y271 => (intro W' hW; go_simp; try with_reducible rfl)
            refine tk 2 ?v272 ?y272 ?r272
            case y272 => (intro W' hW; go_simp; try with_reducible rfl)
            try simp only [Act.put, List.getElem_toArray, List.getElem_cons_zero, List.getElem_cons_succ, List.setIfInBounds_toArray, List.set_cons_zero, List.set_cons_succ]
            refine tk 3 ?v273 ?y273 ?r273
            case y273 => (intro W' hW; go_simp; try with_reducible rfl)
            refine tk 4 ?v274 ?y274 ?r274
            case y274 => (intro W' hW; go_simp; try with_reducible rfl)
            refine tk 5 ?v275 ?y275 ?r275
            case y275 => (intro W' hW; go_simp; try with_reducible rfl)
            try simp only [Act.put, List.getElem_toArray, List.getElem_cons_zero, List.getElem_cons_succ, List.setIfInBounds_toArray, List.set_cons_zero, List.set_cons_succ]
            refine tk 6 ?v276 ?y276 ?r276
            case y276 => (intro W' hW; go_simp; try with_reducible rfl)
            refine tk 7 ?v277 ?y277 ?r277
            case y277 => (intro W' hW; go_simp; try with_reducible rfl)
            refine wpAnyH_take (i := 8) (v := undef) rfl (by kernel_rfl) (by kernel_rfl) (by kernel_rfl) (fun _ _ _ h => h) (Or.inr ⟨by rfl, rfl⟩) (by assumption) ?r278
            try simp only [Act.put, List.getElem_toArray, List.getElem_cons_zero, List.getElem_cons_succ, List.setIfInBounds_toArray, List.set_cons_zero, List.set_cons_succ]
            refine tk 9 ?v279 ?y279 ?r279
            case y279 => (intro W' hW; go_simp; try with_reducible rfl)
            refine tk 10 ?v280 ?y280 ?r280
            case y280 => (intro W' hW; go_simp; try with_reducible rfl)
            refine wpAnyH_take (i := 11) (v := undef) rfl (by kernel_rfl) (by kernel_rfl) (by kernel_rfl) (fun _ _ _ h => h) (Or.inr ⟨by rfl, rfl⟩) (by assumption) ?r281
            try simp only [Act.put, List.getElem_toArray, List.getElem_cons_zero, List.getElem_cons_succ, List.setIfInBounds_toArray, List.set_cons_zero, List.set_cons_succ]
            refine wpAnyH_take (i := 12) (v := undef) rfl (by kernel_rfl) (by kernel_rfl) (by kernel_rfl) (fun _ _ _ h => h) (Or.inr ⟨by rfl, rfl⟩) (by assumption) ?r282
            refine wpAnyH_take (i := 13) (v := undef) rfl (by kernel_rfl) (by kernel_rfl) (by kernel_rfl) (fun _ _ _ h => h) (Or.inr ⟨by rfl, rfl⟩) (by assumption) ?r283
            refine wpAnyH_take (i := 14) (v := undef) rfl (by kernel_rfl) (by kernel_rfl) (by kernel_rfl) (fun _ _ _ h => h) (Or.inr ⟨by rfl, rfl⟩) (by assumption) ?r284
            try simp only [Act.put, List.getElem_toArray, List.getElem_cons_zero, List.getElem_cons_succ, List.setIfInBounds_toArray, List.set_cons_zero, List.set_cons_succ]
            refine wpAnyH_take (i := 15) (v := undef) rfl (by kernel_rfl) (by kernel_rfl) (by kernel_rfl) (fun _ _ _ h => h) (Or.inr ⟨by rfl, rfl⟩) (by assumption) ?r285
            refine wpAnyH_take (i := 16) (v := undef) rfl (by kernel_rfl) (by kernel_rfl) (by kernel_rfl) (fun _ _ _ h => h) (Or.inr ⟨by rfl, rfl⟩) (by assumption) ?r286
            refine tk 17 ?v287 ?y287 ?r287
            case y287 => (intro W' hW; go_simp; try with_reducible rfl)
            try simp only [Act.put, List.getElem_toArray, List.getElem_cons_zero, List.getElem_cons_succ, List.setIfInBounds_toArray, List.set_cons_zero, List.set_cons_succ]
            refine wpAnyH_ready (rs := [18]) (by kernel_rfl) (by simp) ?_
            refine AllReadyH.cons rfl (fun K hK => ?_) ?nil18
            case nil18 => exact AllReadyH.nil
            go_simp
            refine hK.out _ _ ⟨by rw [setRow_other _ _ _ _ (by omega)]; exact S3.r6⟩ (fun hHeld => ?_)
            clear hK K
            refine tk 19 ?v288 ?y288 ?r288
            case y288 => (intro W' hW; go_simp; try with_reducible rfl)
            try simp only [Act.put, List.getElem_toArray, List.getElem_cons_zero, List.getElem_cons_succ, List.setIfInBounds_toArray, List.set_cons_zero, List.set_cons_succ]
            refine wpAnyH_done (by kernel_rfl) ?_ _
            go_wp2
            refine bodyPost_ret (res173 Tryz.results100 _ _ w.heap.size (rhA hh) _ rfl rfl rfl (setRow_heap w3.drew _ _ _ 173 _ S3.r4)) rfl ⟨?_, ?_⟩
            · exact congrArg (fun x => Ending.returned (.tuple #[.agg (rhA hh), .bool x])) (by rw [HB.out, hk]; simp)
            · exact Below.setRow S3.bl.drew (Nat.le_refl _) _
          case true =>
            refine wp_region_held_drew (S := fun W' => RdC W' (w.heap.size + 1) hh) (by kernel_rfl) (RdC.mk S3.r6) (fun hHeld => ?_)
            refine tk 0 ?v289 ?y289 ?r289
            case y289 => (intro W' hW; have hb6 : blk W' (w.heap.size + 1) = _ := hW.r6; go_simp; try with_reducible rfl)
            refine tk 1 ?v290 ?y290 ?r290
            case y290 => (intro W' hW; go_simp; try with_reducible rfl)
            refine tk 2 ?v291 ?y291 ?r291
            case y291 => (intro W' hW; go_simp; try with_reducible rfl)
            try simp only [Act.put, List.getElem_toArray, List.getElem_cons_zero, List.getElem_cons_succ, List.setIfInBounds_toArray, List.set_cons_zero, List.set_cons_succ]
            refine tk 3 ?v292 ?y292 ?r292
            case y292 => (intro W' hW; go_simp; try with_reducible rfl)
            refine tk 4 ?v293 ?y293 ?r293
            case y293 => (intro W' hW; go_simp; try with_reducible rfl)
            refine tk 5 ?v294 ?y294 ?r294
            case y294 => (intro W' hW; go_simp; try with_reducible rfl)
            try simp only [Act.put, List.getElem_toArray, List.getElem_cons_zero, List.getElem_cons_succ, List.setIfInBounds_toArray, List.set_cons_zero, List.set_cons_succ]
            refine tk 6 ?v295 ?y295 ?r295
            case y295 => (intro W' hW; go_simp; try with_reducible rfl)
            refine tk 7 ?v296 ?y296 ?r296
            case y296 => (intro W' hW; go_simp; try with_reducible rfl)
            refine tk 8 ?v297 ?y297 ?r297
            case y297 => (intro W' hW; go_simp; try with_reducible rfl)
            try simp only [Act.put, List.getElem_toArray, List.getElem_cons_zero, List.getElem_cons_succ, List.setIfInBounds_toArray, List.set_cons_zero, List.set_cons_succ]
            refine tk 9 ?v298 ?y298 ?r298
            case y298 => (intro W' hW; go_simp; try with_reducible rfl)
            refine tk 10 ?v299 ?y299 ?r299
            case y299 => (intro W' hW; go_simp; try with_reducible rfl)
            refine tk 11 ?v300 ?y300 ?r300
            case y300 => (intro W' hW; go_simp; try with_reducible rfl)
            try simp only [Act.put, List.getElem_toArray, List.getElem_cons_zero, List.getElem_cons_succ, List.setIfInBounds_toArray, List.set_cons_zero, List.set_cons_succ]
            refine tk 12 ?v301 ?y301 ?r301
            case y301 => (intro W' hW; obtain ⟨d0, d1, d2, d3, d4, d5, d6, d7, d8, d9, d10⟩ := hW.cs; go_simp; try with_reducible rfl)
            refine tk 13 ?v302 ?y302 ?r302
            case y302 => (intro W' hW; go_simp; try with_reducible rfl)
            refine tk 14 ?v303 ?y303 ?r303
            case y303 => (intro W' hW; go_simp; try with_reducible rfl)
            try simp only [Act.put, List.getElem_toArray, List.getElem_cons_zero, List.getElem_cons_succ, List.setIfInBounds_toArray, List.set_cons_zero, List.set_cons_succ]
            refine tk 15 ?v304 ?y304 ?r304
            case y304 => (intro W' hW; obtain ⟨d0, d1, d2, d3, d4, d5, d6, d7, d8, d9, d10⟩ := hW.cs; go_simp; try with_reducible rfl)
            refine tk 16 ?v305 ?y305 ?r305
            case y305 => (intro W' hW; go_simp; try with_reducible rfl)
            refine tk 17 ?v306 ?y306 ?r306
            case y306 => (intro W' hW; go_simp; try with_reducible rfl)
            try simp only [Act.put, List.getElem_toArray, List.getElem_cons_zero, List.getElem_cons_succ, List.setIfInBounds_toArray, List.set_cons_zero, List.set_cons_succ]
            refine wpAnyH_ready (rs := [18]) (by kernel_rfl) (by simp) ?_
            refine AllReadyH.cons rfl (fun K hK => ?_) ?nil18
            case nil18 => exact AllReadyH.nil
            go_simp
            refine hK.out _ _ ⟨by rw [setRow_other _ _ _ _ (by omega)]; exact S3.r6⟩ (fun hHeld => ?_)
            clear hK K
            refine tk 19 ?v307 ?y307 ?r307
            case y307 => (intro W' hW; go_simp; try with_reducible rfl)
            try simp only [Act.put, List.getElem_toArray, List.getElem_cons_zero, List.getElem_cons_succ, List.setIfInBounds_toArray, List.set_cons_zero, List.set_cons_succ]
            refine wpAnyH_done (by kernel_rfl) ?_ _
            go_wp2
            refine bodyPost_ret (res173 Tryz.results100 _ _ w.heap.size (rhA hh) _ rfl rfl rfl (setRow_heap w3.drew _ _ _ 173 _ S3.r4)) rfl ⟨?_, ?_⟩
            · exact congrArg (fun x => Ending.returned (.tuple #[.agg (rhA hh), .bool x])) (by rw [HB.out, hk]; simp)
            · exact Below.setRow S3.bl.drew (Nat.le_refl _) _
      case true =>
        rw [hr] at d7
        by_cases ha : 1 ≤ (hh.alg : Int)
        · by_cases h3 : (hh.alg : Int) ≤ 3
          · have hk0 : (if hh.ret = true then decide (1 ≤ hh.alg ∧ hh.alg ≤ 3) else true && decide (0 < hh.alg)) = true := by rw [if_pos hr, decide_eq_true_eq]; omega
            have HK : Hid _ := hk0
            clear hr hk0
            go_wp2_with fail
            have hk := HK.out
            clear d0 d1 d2 d3 d4 d5 d6 d7 d8 d9 d10
            generalize w2.drew = w3 at *
            have hb4 : blk w3 w.heap.size = some (.cells zrhA 173 (0, 0)) := S3.r4
            have hb2 := HB2.out
            clear HB2
            cases b1
            case false =>
              refine wp_region_held_drew (S := fun W' => RdC W' (w.heap.size + 1) hh) (by kernel_rfl) (RdC.mk S3.r6) (fun hHeld => ?_)
              refine tk 0 ?v308 ?y308 ?r308
              case y308 => (intro W' hW; have hb6 : blk W' (w.heap.size + 1) = _ := hW.r6; go_simp; try with_reducible rfl)
              refine tk 1 ?v309 ?y309 ?r309
              case y309 => (intro W' hW; go_simp; try with_reducible rfl)
              refine tk 2 ?v310 ?y310 ?r310
              case y310 => (intro W' hW; go_simp; try with_reducible rfl)
              try simp only [Act.put, List.getElem_toArray, List.getElem_cons_zero, List.getElem_cons_succ, List.setIfInBounds_toArray, List.set_cons_zero, List.set_cons_succ]
              refine wpAnyH_take (i := 3) (v := undef) rfl (by kernel_rfl) (by kernel_rfl) (by kernel_rfl) (fun _ _ _ h => h) (Or.inr ⟨by rfl, rfl⟩) (by assumption) ?r311
              refine wpAnyH_take (i := 4) (v := undef) rfl (by kernel_rfl) (by kernel_rfl) (by kernel_rfl) (fun _ _ _ h => h) (Or.inr ⟨by rfl, rfl⟩) (by assumption) ?r312
              refine wpAnyH_take (i := 5) (v := undef) rfl (by kernel_rfl) (by kernel_rfl) (by kernel_rfl) (fun _ _ _ h => h) (Or.inr ⟨by rfl, rfl⟩) (by assumption) ?r313
              try simp only [Act.put, List.getElem_toArray, List.getElem_cons_zero, List.getElem_cons_succ, List.setIfInBounds_toArray, List.set_cons_zero, List.set_cons_succ]
              refine tk 6 ?v314 ?y314 ?r314
              case y314 => (intro W' hW; go_simp; try with_reducible rfl)
              refine tk 7 ?v315 ?y315 ?r315
              case y315 => (intro W' hW; go_simp; try with_reducible rfl)
              refine wpAnyH_take (i := 8) (v := undef) rfl (by kernel_rfl) (by kernel_rfl) (by kernel_rfl) (fun _ _ _ h => h) (Or.inr ⟨by rfl, rfl⟩) (by assumption) ?r316
              try simp only [Act.put, List.getElem_toArray, List.getElem_cons_zero, List.getElem_cons_succ, List.setIfInBounds_toArray, List.set_cons_zero, List.set_cons_succ]
              refine tk 9 ?v317 ?y317 ?r317
              case y317 => (intro W' hW; go_simp; try with_reducible rfl)
              refine tk 10 ?v318 ?y318 ?r318
              case y318 => (intro W' hW; go_simp; try with_reducible rfl)
              refine wpAnyH_take (i := 11) (v := undef) rfl (by kernel_rfl) (by kernel_rfl) (by kernel_rfl) (fun _ _ _ h => h) (Or.inr ⟨by rfl, rfl⟩) (by assumption) ?r319
              try simp only [Act.put, List.getElem_toArray, List.getElem_cons_zero, List.getElem_cons_succ, List.setIfInBounds_toArray, List.set_cons_zero, List.set_cons_succ]
              refine wpAnyH_take (i := 12) (v := undef) rfl (by kernel_rfl) (by kernel_rfl) (by kernel_rfl) (fun _ _ _ h => h) (Or.inr ⟨by rfl, rfl⟩) (by assumption) ?r320
              refine wpAnyH_take (i := 13) (v := undef) rfl (by kernel_rfl) (by kernel_rfl) (by kernel_rfl) (fun _ _ _ h => h) (Or.inr ⟨by rfl, rfl⟩) (by assumption) ?r321
              refine wpAnyH_take (i := 14) (v := undef) rfl (by kernel_rfl) (by kernel_rfl) (by kernel_rfl) (fun _ _ _ h => h) (Or.inr ⟨by rfl, rfl⟩) (by assumption) ?r322
              try simp only [Act.put, List.getElem_toArray, List.getElem_cons_zero, List.getElem_cons_succ, List.setIfInBounds_toArray, List.set_cons_zero, List.set_cons_succ]
              refine wpAnyH_take (i := 15) (v := undef) rfl (by kernel_rfl) (by kernel_rfl) (by kernel_rfl) (fun _ _ _ h => h) (Or.inr ⟨by rfl, rfl⟩) (by assumption) ?r323
              refine wpAnyH_take (i := 16) (v := undef) rfl (by kernel_rfl) (by kernel_rfl) (by kernel_rfl) (fun _ _ _ h => h) (Or.inr ⟨by rfl, rfl⟩) (by assumption) ?r324
              refine tk 17 ?v325 ?y325 ?r325
              case y325 => (intro W' hW; go_simp; try with_reducible rfl)
              try simp only [Act.put, List.getElem_toArray, List.getElem_cons_zero, List.getElem_cons_succ, List.setIfInBounds_toArray, List.set_cons_zero, List.set_cons_succ]
              refine wpAnyH_ready (rs := [18]) (by kernel_rfl) (by simp) ?_
              refine AllReadyH.cons rfl (fun K hK => ?_) ?nil18
              case nil18 => exact AllReadyH.nil
              go_simp
              refine hK.out _ _ ⟨by rw [setRow_other _ _ _ _ (by omega)]; exact S3.r6⟩ (fun hHeld => ?_)
              clear hK K
              refine tk 19 ?v326 ?y326 ?r326
              case y326 => (intro W' hW; go_simp; try with_reducible rfl)
              try simp only [Act.put, List.getElem_toArray, List.getElem_cons_zero, List.getElem_cons_succ, List.setIfInBounds_toArray, List.set_cons_zero, List.set_cons_succ]
              refine wpAnyH_done (by kernel_rfl) ?_ _
              go_wp2
              refine bodyPost_ret (res173 Tryz.results100 _ _ w.heap.size (rhA hh) _ rfl rfl rfl (setRow_heap w3.drew _ _ _ 173 _ S3.r4)) rfl ⟨?_, ?_⟩
              · exact congrArg (fun x => Ending.returned (.tuple #[.agg (rhA hh), .bool x])) (by rw [HB.out, hk]; simp)
              · exact Below.setRow S3.bl.drew (Nat.le_refl _) _
            case true =>
              cases b2
              case false =>
                refine wp_region_held_drew (S := fun W' => RdC W' (w.heap.size + 1) hh) (by kernel_rfl) (RdC.mk S3.r6) (fun hHeld => ?_)
                refine tk 0 ?v327 ?y327 ?r327
                case y327 => (intro W' hW; have hb6 : blk W' (w.heap.size + 1) = _ := hW.r6; go_simp; try with_reducible rfl)
                refine tk 1 ?v328 ?y328 ?r328
                case y328 => (intro W' hW; go_simp; try with_reducible rfl)
                refine tk 2 ?v329 ?y329 ?r329
                case y329 => (intro W' hW; go_simp; try with_reducible rfl)
                try simp only [Act.put, List.getElem_toArray, List.getElem_cons_zero, List.getElem_cons_succ, List.setIfInBounds_toArray, List.set_cons_zero, List.set_cons_succ]
                refine tk 3 ?v330 ?y330 ?r330
                case y330 => (intro W' hW; go_simp; try with_reducible rfl)
                refine tk 4 ?v331 ?y331 ?r331
                case y331 => (intro W' hW; go_simp; try with_reducible rfl)
                refine tk 5 ?v332 ?y332 ?r332
                case y332 => (intro W' hW; go_simp; try with_reducible rfl)
                try simp only [Act.put, List.getElem_toArray, List.getElem_cons_zero, List.getElem_cons_succ, List.setIfInBounds_toArray, List.set_cons_zero, List.set_cons_succ]
                refine tk 6 ?v333 ?y333 ?r333
                case y333 => (intro W' hW; go_simp; try with_reducible rfl)
                refine tk 7 ?v334 ?y334 ?r334
                case y334 => (intro W' hW; go_simp; try with_reducible rfl)
                refine wpAnyH_take (i := 8) (v := undef) rfl (by kernel_rfl) (by kernel_rfl) (by kernel_rfl) (fun _ _ _ h => h) (Or.inr ⟨by rfl, rfl⟩) (by assumption) ?r335
                try simp only [Act.put, List.getElem_toArray, List.getElem_cons_zero, List.getElem_cons_succ, List.setIfInBounds_toArray, List.set_cons_zero, List.set_cons_succ]
                refine tk 9 ?v336 ?y336 ?r336
                case y336 => (intro W' hW; go_simp; try with_reducible rfl)
                refine tk 10 ?v337 ?y337 ?r337
                case y337 => (intro W' hW; go_simp; try with_reducible rfl)
                refine wpAnyH_take (i := 11) (v := undef) rfl (by kernel_rfl) (by kernel_rfl) (by kernel_rfl) (fun _ _ _ h => h) (Or.inr ⟨by rfl, rfl⟩) (by assumption) ?r338
                try simp only [Act.put, List.getElem_toArray, List.getElem_cons_zero, List.getElem_cons_succ, List.setIfInBounds_toArray, List.set_cons_zero, List.set_cons_succ]
                refine wpAnyH_take (i := 12) (v := undef) rfl (by kernel_rfl) (by kernel_rfl) (by kernel_rfl) (fun _ _ _ h => h) (Or.inr ⟨by rfl, rfl⟩) (by assumption) ?r339
                refine wpAnyH_take (i := 13) (v := undef) rfl (by kernel_rfl) (by kernel_rfl) (by kernel_rfl) (fun _ _ _ h => h) (Or.inr ⟨by rfl, rfl⟩) (by assumption) ?r340
                refine wpAnyH_take (i := 14) (v := undef) rfl (by kernel_rfl) (by kernel_rfl) (by kernel_rfl) (fun _ _ _ h => h) (Or.inr ⟨by rfl, rfl⟩) (by assumption) ?r341
                try simp only [Act.put, List.getElem_toArray, List.getElem_cons_zero, List.getElem_cons_succ, List.setIfInBounds_toArray, List.set_cons_zero, List.set_cons_succ]
                refine wpAnyH_take (i := 15) (v := undef) rfl (by kernel_rfl) (by kernel_rfl) (by kernel_rfl) (fun _ _ _ h => h) (Or.inr ⟨by rfl, rfl⟩) (by assumption) ?r342
                refine wpAnyH_take (i := 16) (v := undef) rfl (by kernel_rfl) (by kernel_rfl) (by kernel_rfl) (fun _ _ _ h => h) (Or.inr ⟨by rfl, rfl⟩) (by assumption) ?r343
                refine tk 17 ?v344 ?y344 ?r344
                case y344 => (intro W' hW; go_simp; try with_reducible rfl)
                try simp only [Act.put, List.getElem_toArray, List.getElem_cons_zero, List.getElem_cons_succ, List.setIfInBounds_toArray, List.set_cons_zero, List.set_cons_succ]
                refine wpAnyH_ready (rs := [18]) (by kernel_rfl) (by simp) ?_
                refine AllReadyH.cons rfl (fun K hK => ?_) ?nil18
                case nil18 => exact AllReadyH.nil
                go_simp
                refine hK.out _ _ ⟨by rw [setRow_other _ _ _ _ (by omega)]; exact S3.r6⟩ (fun hHeld => ?_)
                clear hK K
                refine tk 19 ?v345 ?y345 ?r345
                case y345 => (intro W' hW; go_simp; try with_reducible rfl)
                try simp only [Act.put, List.getElem_toArray, List.getElem_cons_zero, List.getElem_cons_succ, List.setIfInBounds_toArray, List.set_cons_zero, List.set_cons_succ]
                refine wpAnyH_done (by kernel_rfl) ?_ _
                go_wp2
                refine bodyPost_ret (res173 Tryz.results100 _ _ w.heap.size (rhA hh) _ rfl rfl rfl (setRow_heap w3.drew _ _ _ 173 _ S3.r4)) rfl ⟨?_, ?_⟩
                · exact congrArg (fun x => Ending.returned (.tuple #[.agg (rhA hh), .bool x])) (by rw [HB.out, hk]; simp)
                · exact Below.setRow S3.bl.drew (Nat.le_refl _) _
              case true =>
                refine wp_region_held_drew (S := fun W' => RdC W' (w.heap.size + 1) hh) (by kernel_rfl) (RdC.mk S3.r6) (fun hHeld => ?_)
                refine tk 0 ?v346 ?y346 ?r346
                case y346 => (intro W' hW; have hb6 : blk W' (w.heap.size + 1) = _ := hW.r6; go_simp; try with_reducible rfl)
                refine tk 1 ?v347 ?y347 ?r347
                case y347 => (intro W' hW; go_simp; try with_reducible rfl)
                refine tk 2 ?v348 ?y348 ?r348
                case y348 => (intro W' hW; go_simp; try with_reducible rfl)
                try simp only [Act.put, List.getElem_toArray, List.getElem_cons_zero, List.getElem_cons_succ, List.setIfInBounds_toArray, List.set_cons_zero, List.set_cons_succ]
                refine tk 3 ?v349 ?y349 ?r349
                case y349 => (intro W' hW; go_simp; try with_reducible rfl)
                refine tk 4 ?v350 ?y350 ?r350
                case y350 => (intro W' hW; go_simp; try with_reducible rfl)
                refine tk 5 ?v351 ?y351 ?r351
                case y351 => (intro W' hW; go_simp; try with_reducible rfl)
                try simp only [Act.put, List.getElem_toArray, List.getElem_cons_zero, List.getElem_cons_succ, List.setIfInBounds_toArray, List.set_cons_zero, List.set_cons_succ]
                refine tk 6 ?v352 ?y352 ?r352
                case y352 => (intro W' hW; go_simp; try with_reducible rfl)
                refine tk 7 ?v353 ?y353 ?r353
                case y353 => (intro W' hW; go_simp; try with_reducible rfl)
                refine tk 8 ?v354 ?y354 ?r354
                case y354 => (intro W' hW; go_simp; try with_reducible rfl)
                try simp only [Act.put, List.getElem_toArray, List.getElem_cons_zero, List.getElem_cons_succ, List.setIfInBounds_toArray, List.set_cons_zero, List.set_cons_succ]
                refine tk 9 ?v355 ?y355 ?r355
                case y355 => (intro W' hW; go_simp; try with_reducible rfl)
                refine tk 10 ?v356 ?y356 ?r356
                case y356 => (intro W' hW; go_simp; try with_reducible rfl)
                refine tk 11 ?v357 ?y357 ?r357
                case y357 => (intro W' hW; go_simp; try with_reducible rfl)
                try simp only [Act.put, List.getElem_toArray, List.getElem_cons_zero, List.getElem_cons_succ, List.setIfInBounds_toArray, List.set_cons_zero, List.set_cons_succ]
                refine tk 12 ?v358 ?y358 ?r358
                case y358 => (intro W' hW; obtain ⟨d0, d1, d2, d3, d4, d5, d6, d7, d8, d9, d10⟩ := hW.cs; go_simp; try with_reducible rfl)
                refine tk 13 ?v359 ?y359 ?r359
                case y359 => (intro W' hW; go_simp; try with_reducible rfl)
                refine tk 14 ?v360 ?y360 ?r360
                case y360 => (intro W' hW; go_simp; try with_reducible rfl)
                try simp only [Act.put, List.getElem_toArray, List.getElem_cons_zero, List.getElem_cons_succ, List.setIfInBounds_toArray, List.set_cons_zero, List.set_cons_succ]
                refine tk 15 ?v361 ?y361 ?r361
                case y361 => (intro W' hW; obtain ⟨d0, d1, d2, d3, d4, d5, d6, d7, d8, d9, d10⟩ := hW.cs; go_simp; try with_reducible rfl)
                refine tk 16 ?v362 ?y362 ?r362
                case y362 => (intro W' hW; go_simp; try with_reducible rfl)
                refine tk 17 ?v363 ?y363 ?r363
                case y363 => (intro W' hW; go_simp; try with_reducible rfl)
                try simp only [Act.put, List.getElem_toArray, List.getElem_cons_zero, List.getElem_cons_succ, List.setIfInBounds_toArray, List.set_cons_zero, List.set_cons_succ]
                refine wpAnyH_ready (rs := [18]) (by kernel_rfl) (by simp) ?_
                refine AllReadyH.cons rfl (fun K hK => ?_) ?nil18
                case nil18 => exact AllReadyH.nil
                go_simp
                refine hK.out _ _ ⟨by rw [setRow_other _ _ _ _ (by omega)]; exact S3.r6⟩ (fun hHeld => ?_)
                clear hK K
                refine tk 19 ?v364 ?y364 ?r364
                case y364 => (intro W' hW; go_simp; try with_reducible rfl)
                try simp only [Act.put, List.getElem_toArray, List.getElem_cons_zero, List.getElem_cons_succ, List.setIfInBounds_toArray, List.set_cons_zero, List.set_cons_succ]
                refine wpAnyH_done (by kernel_rfl) ?_ _
                go_wp2
                refine bodyPost_ret (res173 Tryz.results100 _ _ w.heap.size (rhA hh) _ rfl rfl rfl (setRow_heap w3.drew _ _ _ 173 _ S3.r4)) rfl ⟨?_, ?_⟩
                · exact congrArg (fun x => Ending.returned (.tuple #[.agg (rhA hh), .bool x])) (by rw [HB.out, hk]; simp)
                · exact Below.setRow S3.bl.drew (Nat.le_refl _) _
          · have hk0 : (if hh.ret = true then decide (1 ≤ hh.alg ∧ hh.alg ≤ 3) else true && decide (0 < hh.alg)) = false := by rw [if_pos hr, decide_eq_false_iff_not]; omega
            have HK : Hid _ := hk0
            clear hr hk0
            go_wp2_with fail
            have hk := HK.out
            clear d0 d1 d2 d3 d4 d5 d6 d7 d8 d9 d10
            generalize w2.drew = w3 at *
            have hb4 : blk w3 w.heap.size = some (.cells zrhA 173 (0, 0)) := S3.r4
            have hb2 := HB2.out
            clear HB2
            cases b1
            case false =>
              refine wp_region_held_drew (S := fun W' => RdC W' (w.heap.size + 1) hh) (by kernel_rfl) (RdC.mk S3.r6) (fun hHeld => ?_)
              refine tk 0 ?v365 ?y365 ?r365
              case y365 => (intro W' hW; have hb6 : blk W' (w.heap.size + 1) = _ := hW.r6; go_simp; try with_reducible rfl)
              refine tk 1 ?v366 ?y366 ?r366
              case y366 => (intro W' hW; go_simp; try with_reducible rfl)
              refine tk 2 ?v367 ?y367 ?r367
              case y367 => (intro W' hW; go_simp; try with_reducible rfl)
              try simp only [Act.put, List.getElem_toArray, List.getElem_cons_zero, List.getElem_cons_succ, List.setIfInBounds_toArray, List.set_cons_zero, List.set_cons_succ]
              refine wpAnyH_take (i := 3) (v := undef) rfl (by kernel_rfl) (by kernel_rfl) (by kernel_rfl) (fun _ _ _ h => h) (Or.inr ⟨by rfl, rfl⟩) (by assumption) ?r368
              refine wpAnyH_take (i := 4) (v := undef) rfl (by kernel_rfl) (by kernel_rfl) (by kernel_rfl) (fun _ _ _ h => h) (Or.inr ⟨by rfl, rfl⟩) (by assumption) ?r369
              refine wpAnyH_take (i := 5) (v := undef) rfl (by kernel_rfl) (by kernel_rfl) (by kernel_rfl) (fun _ _ _ h => h) (Or.inr ⟨by rfl, rfl⟩) (by assumption) ?r370
              try simp only [Act.put, List.getElem_toArray, List.getElem_cons_zero, List.getElem_cons_succ, List.setIfInBounds_toArray, List.set_cons_zero, List.set_cons_succ]
              refine tk 6 ?v371 ?y371 ?r371
              case y371 => (intro W' hW; go_simp; try with_reducible rfl)
              refine tk 7 ?v372 ?y372 ?r372
              case y372 => (intro W' hW; go_simp; try with_reducible rfl)
              refine wpAnyH_take (i := 8) (v := undef) rfl (by kernel_rfl) (by kernel_rfl) (by kernel_rfl) (fun _ _ _ h => h) (Or.inr ⟨by rfl, rfl⟩) (by assumption) ?r373
              try simp only [Act.put, List.getElem_toArray, List.getElem_cons_zero, List.getElem_cons_succ, List.setIfInBounds_toArray, List.set_cons_zero, List.set_cons_succ]
              refine tk 9 ?v374 ?y374 ?r374
              case y374 => (intro W' hW; go_simp; try with_reducible rfl)
              refine tk 10 ?v375 ?y375 ?r375
              case y375 => (intro W' hW; go_simp; try with_reducible rfl)
              refine wpAnyH_take (i := 11) (v := undef) rfl (by kernel_rfl) (by kernel_rfl) (by kernel_rfl) (fun _ _ _ h => h) (Or.inr ⟨by rfl, rfl⟩) (by assumption) ?r376
              try simp only [Act.put, List.getElem_toArray, List.getElem_cons_zero, List.getElem_cons_succ, List.setIfInBounds_toArray, List.set_cons_zero, List.set_cons_succ]
              refine wpAnyH_take (i := 12) (v := undef) rfl (by kernel_rfl) (by kernel_rfl) (by kernel_rfl) (fun _ _ _ h => h) (Or.inr ⟨by rfl, rfl⟩) (by assumption) ?r377
              refine wpAnyH_take (i := 13) (v := undef) rfl (by kernel_rfl) (by kernel_rfl) (by kernel_rfl) (fun _ _ _ h => h) (Or.inr ⟨by rfl, rfl⟩) (by assumption) ?r378
              refine wpAnyH_take (i := 14) (v := undef) rfl (by kernel_rfl) (by kernel_rfl) (by kernel_rfl) (fun _ _ _ h => h) (Or.inr ⟨by rfl, rfl⟩) (by assumption) ?r379
              try simp only [Act.put, List.getElem_toArray, List.getElem_cons_zero, List.getElem_cons_succ, List.setIfInBounds_toArray, List.set_cons_zero, List.set_cons_succ]
              refine wpAnyH_take (i := 15) (v := undef) rfl (by kernel_rfl) (by kernel_rfl) (by kernel_rfl) (fun _ _ _ h => h) (Or.inr ⟨by rfl, rfl⟩) (by assumption) ?r380
              refine wpAnyH_take (i := 16) (v := undef) rfl (by kernel_rfl) (by kernel_rfl) (by kernel_rfl) (fun _ _ _ h => h) (Or.inr ⟨by rfl, rfl⟩) (by assumption) ?r381
              refine tk 17 ?v382 ?y382 ?r382
              case y382 => (intro W' hW; go_simp; try with_reducible rfl)
              try simp only [Act.put, List.getElem_toArray, List.getElem_cons_zero, List.getElem_cons_succ, List.setIfInBounds_toArray, List.set_cons_zero, List.set_cons_succ]
              refine wpAnyH_ready (rs := [18]) (by kernel_rfl) (by simp) ?_
              refine AllReadyH.cons rfl (fun K hK => ?_) ?nil18
              case nil18 => exact AllReadyH.nil
              go_simp
              refine hK.out _ _ ⟨by rw [setRow_other _ _ _ _ (by omega)]; exact S3.r6⟩ (fun hHeld => ?_)
              clear hK K
              refine tk 19 ?v383 ?y383 ?r383
              case y383 => (intro W' hW; go_simp; try with_reducible rfl)
              try simp only [Act.put, List.getElem_toArray, List.getElem_cons_zero, List.getElem_cons_succ, List.setIfInBounds_toArray, List.set_cons_zero, List.set_cons_succ]
              refine wpAnyH_done (by kernel_rfl) ?_ _
              go_wp2
              refine bodyPost_ret (res173 Tryz.results100 _ _ w.heap.size (rhA hh) _ rfl rfl rfl (setRow_heap w3.drew _ _ _ 173 _ S3.r4)) rfl ⟨?_, ?_⟩
              · exact congrArg (fun x => Ending.returned (.tuple #[.agg (rhA hh), .bool x])) (by rw [HB.out, hk]; simp)
              · exact Below.setRow S3.bl.drew (Nat.le_refl _) _
            case true =>
              cases b2
              case false =>
                refine wp_region_held_drew (S := fun W' => RdC W' (w.heap.size + 1) hh) (by kernel_rfl) (RdC.mk S3.r6) (fun hHeld => ?_)
                refine tk 0 ?v384 ?y384 ?r384
                case y384 => (intro W' hW; have hb6 : blk W' (w.heap.size + 1) = _ := hW.r6; go_simp; try with_reducible rfl)
                refine tk 1 ?v385 ?y385 ?r385
                case y385 => (intro W' hW; go_simp; try with_reducible rfl)
                refine tk 2 ?v386 ?y386 ?r386
                case y386 => (intro W' hW; go_simp; try with_reducible rfl)
                try simp only [Act.put, List.getElem_toArray, List.getElem_cons_zero, List.getElem_cons_succ, List.setIfInBounds_toArray, List.set_cons_zero, List.set_cons_succ]
                refine tk 3 ?v387 ?y387 ?r387
                case y387 => (intro W' hW; go_simp; try with_reducible rfl)
                refine tk 4 ?v388 ?y388 ?r388
                case y388 => (intro W' hW; go_simp; try with_reducible rfl)
                refine tk 5 ?v389 ?y389 ?r389
                case y389 => (intro W' hW; go_simp; try with_reducible rfl)
                try simp only [Act.put, List.getElem_toArray, List.getElem_cons_zero, List.getElem_cons_succ, List.setIfInBounds_toArray, List.set_cons_zero, List.set_cons_succ]
                refine tk 6 ?v390 ?y390 ?r390
                case y390 => (intro W' hW; go_simp; try with_reducible rfl)
                refine tk 7 ?v391 ?y391 ?r391
                case y391 => (intro W' hW; go_simp; try with_reducible rfl)
                refine wpAnyH_take (i := 8) (v := undef) rfl (by kernel_rfl) (by kernel_rfl) (by kernel_rfl) (fun _ _ _ h => h) (Or.inr ⟨by rfl, rfl⟩) (by assumption) ?r392
                try simp only [Act.put, List.getElem_toArray, List.getElem_cons_zero, List.getElem_cons_succ, List.setIfInBounds_toArray, List.set_cons_zero, List.set_cons_succ]
                refine tk 9 ?v393 ?y393 ?r393
                case y393 => (intro W' hW; go_simp; try with_reducible rfl)
                refine tk 10 ?v394 ?y394 ?r394
                case y394 => (intro W' hW; go_simp; try with_reducible rfl)
                refine wpAnyH_take (i := 11) (v := undef) rfl (by kernel_rfl) (by kernel_rfl) (by kernel_rfl) (fun _ _ _ h => h) (Or.inr ⟨by rfl, rfl⟩) (by assumption) ?r395
                try simp only [Act.put, List.getElem_toArray, List.getElem_cons_zero, List.getElem_cons_succ, List.setIfInBounds_toArray, List.set_cons_zero, List.set_cons_succ]
                refine wpAnyH_take (i := 12) (v := undef) rfl (by kernel_rfl) (by kernel_rfl) (by kernel_rfl) (fun _ _ _ h => h) (Or.inr ⟨by rfl, rfl⟩) (by assumption) ?r396
                refine wpAnyH_take (i := 13) (v := undef) rfl (by kernel_rfl) (by kernel_rfl) (by kernel_rfl) (fun _ _ _ h => h) (Or.inr ⟨by rfl, rfl⟩) (by assumption) ?r397
                refine wpAnyH_take (i := 14) (v := undef) rfl (by kernel_rfl) (by kernel_rfl) (by kernel_rfl) (fun _ _ _ h => h) (Or.inr ⟨by rfl, rfl⟩) (by assumption) ?r398
                try simp only [Act.put, List.getElem_toArray, List.getElem_cons_zero, List.getElem_cons_succ, List.setIfInBounds_toArray, List.set_cons_zero, List.set_cons_succ]
                refine wpAnyH_take (i := 15) (v := undef) rfl (by kernel_rfl) (by kernel_rfl) (by kernel_rfl) (fun _ _ _ h => h) (Or.inr ⟨by rfl, rfl⟩) (by assumption) ?r399
                refine wpAnyH_take (i := 16) (v := undef) rfl (by kernel_rfl) (by kernel_rfl) (by kernel_rfl) (fun _ _ _ h => h) (Or.inr ⟨by rfl, rfl⟩) (by assumption) ?r400
                refine tk 17 ?v401 ?y401 ?r401
                case y401 => (intro W' hW; go_simp; try with_reducible rfl)
                try simp only [Act.put, List.getElem_toArray, List.getElem_cons_zero, List.getElem_cons_succ, List.setIfInBounds_toArray, List.set_cons_zero, List.set_cons_succ]
                refine wpAnyH_ready (rs := [18]) (by kernel_rfl) (by simp) ?_
                refine AllReadyH.cons rfl (fun K hK => ?_) ?nil18
                case nil18 => exact AllReadyH.nil
                go_simp
                refine hK.out _ _ ⟨by rw [setRow_other _ _ _ _ (by omega)]; exact S3.r6⟩ (fun hHeld => ?_)
                clear hK K
                refine tk 19 ?v402 ?y402 ?r402
                case y402 => (intro W' hW; go_simp; try with_reducible rfl)
                try simp only [Act.put, List.getElem_toArray, List.getElem_cons_zero, List.getElem_cons_succ, List.setIfInBounds_toArray, List.set_cons_zero, List.set_cons_succ]
                refine wpAnyH_done (by kernel_rfl) ?_ _
                go_wp2
                refine bodyPost_ret (res173 Tryz.results100 _ _ w.heap.size (rhA hh) _ rfl rfl rfl (setRow_heap w3.drew _ _ _ 173 _ S3.r4)) rfl ⟨?_, ?_⟩
                · exact congrArg (fun x => Ending.returned (.tuple #[.agg (rhA hh), .bool x])) (by rw [HB.out, hk]; simp)
                · exact Below.setRow S3.bl.drew (Nat.le_refl _) _
              case true =>
                refine wp_region_held_drew (S := fun W' => RdC W' (w.heap.size + 1) hh) (by kernel_rfl) (RdC.mk S3.r6) (fun hHeld => ?_)
                refine tk 0 ?v403 ?y403 ?r403
                case y403 => (intro W' hW; have hb6 : blk W' (w.heap.size + 1) = _ := hW.r6; go_simp; try with_reducible rfl)
                refine tk 1 ?v404 ?y404 ?r404
                case y404 => (intro W' hW; go_simp; try with_reducible rfl)
                refine tk 2 ?v405 ?y405 ?r405
                case y405 => (intro W' hW; go_simp; try with_reducible rfl)
                try simp only [Act.put, List.getElem_toArray, List.getElem_cons_zero, List.getElem_cons_succ, List.setIfInBounds_toArray, List.set_cons_zero, List.set_cons_succ]
                refine tk 3 ?v406 ?y406 ?r406
                case y406 => (intro W' hW; go_simp; try with_reducible rfl)
                refine tk 4 ?v407 ?y407 ?r407
                case y407 => (intro W' hW; go_simp; try with_reducible rfl)
                refine tk 5 ?v408 ?y408 ?r408
                case y408 => (intro W' hW; go_simp; try with_reducible rfl)
                try simp only [Act.put, List.getElem_toArray, List.getElem_cons_zero, List.getElem_cons_succ, List.setIfInBounds_toArray, List.set_cons_zero, List.set_cons_succ]
                refine tk 6 ?v409 ?y409 ?r409
                case y409 => (intro W' hW; go_simp; try with_reducible rfl)
                refine tk 7 ?v410 ?y410 ?r410
                case y410 => (intro W' hW; go_simp; try with_reducible rfl)
                refine tk 8 ?v411 ?y411 ?r411
                case y411 => (intro W' hW; go_simp; try with_reducible rfl)
                try simp only [Act.put, List.getElem_toArray, List.getElem_cons_zero, List.getElem_cons_succ, List.setIfInBounds_toArray, List.set_cons_zero, List.set_cons_succ]
                refine tk 9 ?v412 ?y412 ?r412
                case y412 => (intro W' hW; go_simp; try with_reducible rfl)
                refine tk 10 ?v413 ?y413 ?r413
                case y413 => (intro W' hW; go_simp; try with_reducible rfl)
                refine wpAnyH_take (i := 11) (v := undef) rfl (by kernel_rfl) (by kernel_rfl) (by kernel_rfl) (fun _ _ _ h => h) (Or.inr ⟨by rfl, rfl⟩) (by assumption) ?r414
                try simp only [Act.put, List.getElem_toArray, List.getElem_cons_zero, List.getElem_cons_succ, List.setIfInBounds_toArray, List.set_cons_zero, List.set_cons_succ]
                refine wpAnyH_take (i := 12) (v := undef) rfl (by kernel_rfl) (by kernel_rfl) (by kernel_rfl) (fun _ _ _ h => h) (Or.inr ⟨by rfl, rfl⟩) (by assumption) ?r415
                refine wpAnyH_take (i := 13) (v := undef) rfl (by kernel_rfl) (by kernel_rfl) (by kernel_rfl) (fun _ _ _ h => h) (Or.inr ⟨by rfl, rfl⟩) (by assumption) ?r416
                refine wpAnyH_take (i := 14) (v := undef) rfl (by kernel_rfl) (by kernel_rfl) (by kernel_rfl) (fun _ _ _ h => h) (Or.inr ⟨by rfl, rfl⟩) (by assumption) ?r417
                try simp only [Act.put, List.getElem_toArray, List.getElem_cons_zero, List.getElem_cons_succ, List.setIfInBounds_toArray, List.set_cons_zero, List.set_cons_succ]
                refine wpAnyH_take (i := 15) (v := undef) rfl (by kernel_rfl) (by kernel_rfl) (by kernel_rfl) (fun _ _ _ h => h) (Or.inr ⟨by rfl, rfl⟩) (by assumption) ?r418
                refine wpAnyH_take (i := 16) (v := undef) rfl (by kernel_rfl) (by kernel_rfl) (by kernel_rfl) (fun _ _ _ h => h) (Or.inr ⟨by rfl, rfl⟩) (by assumption) ?r419
                refine tk 17 ?v420 ?y420 ?r420
                case y420 => (intro W' hW; go_simp; try with_reducible rfl)
                try simp only [Act.put, List.getElem_toArray, List.getElem_cons_zero, List.getElem_cons_succ, List.setIfInBounds_toArray, List.set_cons_zero, List.set_cons_succ]
                refine wpAnyH_ready (rs := [18]) (by kernel_rfl) (by simp) ?_
                refine AllReadyH.cons rfl (fun K hK => ?_) ?nil18
                case nil18 => exact AllReadyH.nil
                go_simp
                refine hK.out _ _ ⟨by rw [setRow_other _ _ _ _ (by omega)]; exact S3.r6⟩ (fun hHeld => ?_)
                clear hK K
                refine tk 19 ?v421 ?y421 ?r421
                case y421 => (intro W' hW; go_simp; try with_reducible rfl)
                try simp only [Act.put, List.getElem_toArray, List.getElem_cons_zero, List.getElem_cons_succ, List.setIfInBounds_toArray, List.set_cons_zero, List.set_cons_succ]
                refine wpAnyH_done (by kernel_rfl) ?_ _
                go_wp2
                refine bodyPost_ret (res173 Tryz.results100 _ _ w.heap.size (rhA hh) _ rfl rfl rfl (setRow_heap w3.drew _ _ _ 173 _ S3.r4)) rfl ⟨?_, ?_⟩
                · exact congrArg (fun x => Ending.returned (.tuple #[.agg (rhA hh), .bool x])) (by rw [HB.out, hk]; simp)
                · exact Below.setRow S3.bl.drew (Nat.le_refl _) _
        · omega
    · have h0n : ¬ 0 < hh.alg := by omega
      have h0d : decide (0 < hh.alg) = false := by simpa using h0n
      refine wp_region_held_drew (S := fun W' => RdS w W' hh) (by kernel_rfl) S2.drew (fun hHeld => ?_)
      refine tk 0 ?v422 ?y422 ?r422
      case y422 => (intro W' hW; go_simp; try with_reducible rfl)
      refine tk 1 ?v423 ?y423 ?r423
      case y423 => (intro W' hW; obtain ⟨d0, d1, d2, d3, d4, d5, d6, d7, d8, d9, d10⟩ := hW.cs; go_simp; try with_reducible rfl)
      refine tk 3 ?v424 ?y424 ?r424
      case y424 => (intro W' hW; go_simp; try with_reducible rfl)
      try simp only [Act.put, List.getElem_toArray, List.getElem_cons_zero, List.getElem_cons_succ, List.setIfInBounds_toArray, List.set_cons_zero, List.set_cons_succ]
      refine tk 4 ?v425 ?y425 ?r425
      case y425 => (intro W' hW; obtain ⟨d0, d1, d2, d3, d4, d5, d6, d7, d8, d9, d10⟩ := hW.cs; go_simp; try with_reducible rfl)
      try simp only [Act.put, List.getElem_toArray, List.getElem_cons_zero, List.getElem_cons_succ, List.setIfInBounds_toArray, List.set_cons_zero, List.set_cons_succ]
      refine wpAnyH_ready (rs := [2]) (by kernel_rfl) (by simp) ?_
      refine AllReadyH.cons rfl (fun K hK => ?_) ?nil2
      case nil2 => exact AllReadyH.nil
      go_simp
      refine (rAlg_any _ _).mono ?_
      rintro e wa ⟨rfl, hwa⟩
      subst hwa
      go_wp2_with fail
      refine hK.out _ _ hHeld (fun hHeld => ?_)
      clear hK K
      refine tk 5 ?v426 ?y426 ?r426
      case y426 => (intro W' hW; go_simp; try with_reducible rfl)
      refine tk 6 ?v427 ?y427 ?r427
      case y427 => (intro W' hW; go_simp; try with_reducible rfl)
      refine tk 7 ?v428 ?y428 ?r428
      case y428 => (intro W' hW; go_simp; try with_reducible rfl)
      try simp only [Act.put, List.getElem_toArray, List.getElem_cons_zero, List.getElem_cons_succ, List.setIfInBounds_toArray, List.set_cons_zero, List.set_cons_succ]
      refine tk 8 ?v429 ?y429 ?r429
      case y429 => (intro W' hW; obtain ⟨d0, d1, d2, d3, d4, d5, d6, d7, d8, d9, d10⟩ := hW.cs; go_simp; try with_reducible rfl)
      refine tk 9 ?v430 ?y430 ?r430
      case y430 => (intro W' hW; go_simp; try with_reducible rfl)
      refine tk 10 ?v431 ?y431 ?r431
      case y431 => (intro W' hW; go_simp; try with_reducible rfl)
      try simp only [Act.put, List.getElem_toArray, List.getElem_cons_zero, List.getElem_cons_succ, List.setIfInBounds_toArray, List.set_cons_zero, List.set_cons_succ]
      refine tk 11 ?v432 ?y432 ?r432
      case y432 => (intro W' hW; go_simp; try with_reducible rfl)
      try simp only [Act.put, List.getElem_toArray, List.getElem_cons_zero, List.getElem_cons_succ, List.setIfInBounds_toArray, List.set_cons_zero, List.set_cons_succ]
      refine wpAnyH_done (by kernel_rfl) ?_ _
      have S3 := hHeld
      clear hHeld S2
      obtain ⟨d0, d1, d2, d3, d4, d5, d6, d7, d8, d9, d10⟩ := S3.cs
      cases hr : hh.ret
      case false =>
        rw [hr] at d7
        have hk : (if hh.ret = true then decide (1 ≤ hh.alg ∧ hh.alg ≤ 3) else true && decide (0 < hh.alg)) = false := by rw [if_neg (by rw [hr]; decide), Bool.true_and, decide_eq_false_iff_not]; omega
        have HK : Hid _ := hk
        clear hk hr
        go_wp2_with fail
        have hk := HK.out
        clear d0 d1 d2 d3 d4 d5 d6 d7 d8 d9 d10
        generalize w2.drew = w3 at *
        have hb4 : blk w3 w.heap.size = some (.cells zrhA 173 (0, 0)) := S3.r4
        have hb2 := HB2.out
        clear HB2
        cases b1
        case false =>
          refine wp_region_held_drew (S := fun W' => RdC W' (w.heap.size + 1) hh) (by kernel_rfl) (RdC.mk S3.r6) (fun hHeld => ?_)
          refine tk 0 ?v433 ?y433 ?r433
          case y433 => (intro W' hW; have hb6 : blk W' (w.heap.size + 1) = _ := hW.r6; go_simp; try with_reducible rfl)
          refine tk 1 ?v434 ?y434 ?r434
          case y434 => (intro W' hW; go_simp; try with_reducible rfl)
          refine tk 2 ?v435 ?y435 ?r435
          case y435 => (intro W' hW; go_simp; try with_reducible rfl)
          try simp only [Act.put, List.getElem_toArray, List.getElem_cons_zero, List.getElem_cons_succ, List.setIfInBounds_toArray, List.set_cons_zero, List.set_cons_succ]
          refine wpAnyH_take (i := 3) (v := undef) rfl (by kernel_rfl) (by kernel_rfl) (by kernel_rfl) (fun _ _ _ h => h) (Or.inr ⟨by rfl, rfl⟩) (by assumption) ?r436
          refine wpAnyH_take (i := 4) (v := undef) rfl (by kernel_rfl) (by kernel_rfl) (by kernel_rfl) (fun _ _ _ h => h) (Or.inr ⟨by rfl, rfl⟩) (by assumption) ?r437
          refine wpAnyH_take (i := 5) (v := undef) rfl (by kernel_rfl) (by kernel_rfl) (by kernel_rfl) (fun _ _ _ h => h) (Or.inr ⟨by rfl, rfl⟩) (by assumption) ?r438
          try simp only [Act.put, List.getElem_toArray, List.getElem_cons_zero, List.getElem_cons_succ, List.setIfInBounds_toArray, List.set_cons_zero, List.set_cons_succ]
          refine tk 6 ?v439 ?y439 ?r439
          case y439 => (intro W' hW; go_simp; try with_reducible rfl)
          refine tk 7 ?v440 ?y440 ?r440
          case y440 => (intro W' hW; go_simp; try with_reducible rfl)
          refine wpAnyH_take (i := 8) (v := undef) rfl (by kernel_rfl) (by kernel_rfl) (by kernel_rfl) (fun _ _ _ h => h) (Or.inr ⟨by rfl, rfl⟩) (by assumption) ?r441
          try simp only [Act.put, List.getElem_toArray, List.getElem_cons_zero, List.getElem_cons_succ, List.setIfInBounds_toArray, List.set_cons_zero, List.set_cons_succ]
          refine tk 9 ?v442 ?y442 ?r442
          case y442 => (intro W' hW; go_simp; try with_reducible rfl)
          refine tk 10 ?v443 ?y443 ?r443
          case y443 => (intro W' hW; go_simp; try with_reducible rfl)
          refine wpAnyH_take (i := 11) (v := undef) rfl (by kernel_rfl) (by kernel_rfl) (by kernel_rfl) (fun _ _ _ h => h) (Or.inr ⟨by rfl, rfl⟩) (by assumption) ?r444
          try simp only [Act.put, List.getElem_toArray, List.getElem_cons_zero, List.getElem_cons_succ, List.setIfInBounds_toArray, List.set_cons_zero, List.set_cons_succ]
          refine wpAnyH_take (i := 12) (v := undef) rfl (by kernel_rfl) (by kernel_rfl) (by kernel_rfl) (fun _ _ _ h => h) (Or.inr ⟨by rfl, rfl⟩) (by assumption) ?r445
          refine wpAnyH_take (i := 13) (v := undef) rfl (by kernel_rfl) (by kernel_rfl) (by kernel_rfl) (fun _ _ _ h => h) (Or.inr ⟨by rfl, rfl⟩) (by assumption) ?r446
          refine wpAnyH_take (i := 14) (v := undef) rfl (by kernel_rfl) (by kernel_rfl) (by kernel_rfl) (fun _ _ _ h => h) (Or.inr ⟨by rfl, rfl⟩) (by assumption) ?r447
          try simp only [Act.put, List.getElem_toArray, List.getElem_cons_zero, List.getElem_cons_succ, List.setIfInBounds_toArray, List.set_cons_zero, List.set_cons_succ]
          refine wpAnyH_take (i := 15) (v := undef) rfl (by kernel_rfl) (by kernel_rfl) (by kernel_rfl) (fun _ _ _ h => h) (Or.inr ⟨by rfl, rfl⟩) (by assumption) ?r448
          refine wpAnyH_take (i := 16) (v := undef) rfl (by kernel_rfl) (by kernel_rfl) (by kernel_rfl) (fun _ _ _ h => h) (Or.inr ⟨by rfl, rfl⟩) (by assumption) ?r449
          refine tk 17 ?v450 ?y450 ?r450
          case y450 => (intro W' hW; go_simp; try with_reducible rfl)
          try simp only [Act.put, List.getElem_toArray, List.getElem_cons_zero, List.getElem_cons_succ, List.setIfInBounds_toArray, List.set_cons_zero, List.set_cons_succ]
          refine wpAnyH_ready (rs := [18]) (by kernel_rfl) (by simp) ?_
          refine AllReadyH.cons rfl (fun K hK => ?_) ?nil18
          case nil18 => exact AllReadyH.nil
          go_simp
          refine hK.out _ _ ⟨by rw [setRow_other _ _ _ _ (by omega)]; exact S3.r6⟩ (fun hHeld => ?_)
          clear hK K
          refine tk 19 ?v451 ?y451 ?r451
          case y451 => (intro W' hW; go_simp; try with_reducible rfl)
          try simp only [Act.put, List.getElem_toArray, List.getElem_cons_zero, List.getElem_cons_succ, List.setIfInBounds_toArray, List.set_cons_zero, List.set_cons_succ]
          refine wpAnyH_done (by kernel_rfl) ?_ _
          go_wp2
          refine bodyPost_ret (res173 Tryz.results100 _ _ w.heap.size (rhA hh) _ rfl rfl rfl (setRow_heap w3.drew _ _ _ 173 _ S3.r4)) rfl ⟨?_, ?_⟩
          · exact congrArg (fun x => Ending.returned (.tuple #[.agg (rhA hh), .bool x])) (by rw [HB.out, hk]; simp)
          · exact Below.setRow S3.bl.drew (Nat.le_refl _) _
        case true =>
          cases b2
          case false =>
            refine wp_region_held_drew (S := fun W' => RdC W' (w.heap.size + 1) hh) (by kernel_rfl) (RdC.mk S3.r6) (fun hHeld => ?_)
            refine tk 0 ?v452 ?y452 ?r452
            case y452 => (intro W' hW; have hb6 : blk W' (w.heap.size + 1) = _ := hW.r6; go_simp; try with_reducible rfl)
            refine tk 1 ?v453 ?y453 ?r453
            case y453 => (intro W' hW; go_simp; try with_reducible rfl)
            refine tk 2 ?v454 ?y454 ?r454
            case y454 => (intro W' hW; go_simp; try with_reducible rfl)
            try simp only [Act.put, List.getElem_toArray, List.getElem_cons_zero, List.getElem_cons_succ, List.setIfInBounds_toArray, List.set_cons_zero, List.set_cons_succ]
            refine tk 3 ?v455 ?y455 ?r455
            case y455 => (intro W' hW; go_simp; try with_reducible rfl)
            refine tk 4 ?v456 ?y456 ?r456
            case y456 => (intro W' hW; go_simp; try with_reducible rfl)
            refine tk 5 ?v457 ?y457 ?r457
            case y457 => (intro W' hW; go_simp; try with_reducible rfl)
            try simp only [Act.put, List.getElem_toArray, List.getElem_cons_zero, List.getElem_cons_succ, List.setIfInBounds_toArray, List.set_cons_zero, List.set_cons_succ]
            refine tk 6 ?v458 ?y458 ?r458
            case y458 => (intro W' hW; go_simp; try with_reducible rfl)
            refine tk 7 ?v459 ?y459 ?r459
            case y459 => (intro W' hW; go_simp; try with_reducible rfl)
            refine wpAnyH_take (i := 8) (v := undef) rfl (by kernel_rfl) (by kernel_rfl) (by kernel_rfl) (fun _ _ _ h => h) (Or.inr ⟨by rfl, rfl⟩) (by assumption) ?r460
            try simp only [Act.put, List.getElem_toArray, List.getElem_cons_zero, List.getElem_cons_succ, List.setIfInBounds_toArray, List.set_cons_zero, List.set_cons_succ]
            refine tk 9 ?v461 ?y461 ?r461
            case y461 => (intro W' hW; go_simp; try with_reducible rfl)
            refine tk 10 ?v462 ?y462 ?r462
            case y462 => (intro W' hW; go_simp; try with_reducible rfl)
            refine wpAnyH_take (i := 11) (v := undef) rfl (by kernel_rfl) (by kernel_rfl) (by kernel_rfl) (fun _ _ _ h => h) (Or.inr ⟨by rfl, rfl⟩) (by assumption) ?r463
            try simp only [Act.put, List.getElem_toArray, List.getElem_cons_zero, List.getElem_cons_succ, List.setIfInBounds_toArray, List.set_cons_zero, List.set_cons_succ]
            refine wpAnyH_take (i := 12) (v := undef) rfl (by kernel_rfl) (by kernel_rfl) (by kernel_rfl) (fun _ _ _ h => h) (Or.inr ⟨by rfl, rfl⟩) (by assumption) ?r464
            refine wpAnyH_take (i := 13) (v := undef) rfl (by kernel_rfl) (by kernel_rfl) (by kernel_rfl) (fun _ _ _ h => h) (Or.inr ⟨by rfl, rfl⟩) (by assumption) ?r465
            refine wpAnyH_take (i := 14) (v := undef) rfl (by kernel_rfl) (by kernel_rfl) (by kernel_rfl) (fun _ _ _ h => h) (Or.inr ⟨by rfl, rfl⟩) (by assumption) ?r466
            try simp only [Act.put, List.getElem_toArray, List.getElem_cons_zero, List.getElem_cons_succ, List.setIfInBounds_toArray, List.set_cons_zero, List.set_cons_succ]
            refine wpAnyH_take (i := 15) (v := undef) rfl (by kernel_rfl) (by kernel_rfl) (by kernel_rfl) (fun _ _ _ h => h) (Or.inr ⟨by rfl, rfl⟩) (by assumption) ?r467
            refine wpAnyH_take (i := 16) (v := undef) rfl (by kernel_rfl) (by kernel_rfl) (by kernel_rfl) (fun _ _ _ h => h) (Or.inr ⟨by rfl, rfl⟩) (by assumption) ?r468
            refine tk 17 ?v469 ?y469 ?r469
            case y469 => (intro W' hW; go_simp; try with_reducible rfl)
            try simp only [Act.put, List.getElem_toArray, List.getElem_cons_zero, List.getElem_cons_succ, List.setIfInBounds_toArray, List.set_cons_zero, List.set_cons_succ]
            refine wpAnyH_ready (rs := [18]) (by kernel_rfl) (by simp) ?_
            refine AllReadyH.cons rfl (fun K hK => ?_) ?nil18
            case nil18 => exact AllReadyH.nil
            go_simp
            refine hK.out _ _ ⟨by rw [setRow_other _ _ _ _ (by omega)]; exact S3.r6⟩ (fun hHeld => ?_)
            clear hK K
            refine tk 19 ?v470 ?y470 ?r470
            case y470 => (intro W' hW; go_simp; try with_reducible rfl)
            try simp only [Act.put, List.getElem_toArray, List.getElem_cons_zero, List.getElem_cons_succ, List.setIfInBounds_toArray, List.set_cons_zero, List.set_cons_succ]
            refine wpAnyH_done (by kernel_rfl) ?_ _
            go_wp2
            refine bodyPost_ret (res173 Tryz.results100 _ _ w.heap.size (rhA hh) _ rfl rfl rfl (setRow_heap w3.drew _ _ _ 173 _ S3.r4)) rfl ⟨?_, ?_⟩
            · exact congrArg (fun x => Ending.returned (.tuple #[.agg (rhA hh), .bool x])) (by rw [HB.out, hk]; simp)
            · exact Below.setRow S3.bl.drew (Nat.le_refl _) _
          case true =>
            refine wp_region_held_drew (S := fun W' => RdC W' (w.heap.size + 1) hh) (by kernel_rfl) (RdC.mk S3.r6) (fun hHeld => ?_)
            refine tk 0 ?v471 ?y471 ?r471
            case y471 => (intro W' hW; have hb6 : blk W' (w.heap.size + 1) = _ := hW.r6; go_simp; try with_reducible rfl)
            refine tk 1 ?v472 ?y472 ?r472
            case y472 => (intro W' hW; go_simp; try with_reducible rfl)
            refine tk 2 ?v473 ?y473 ?r473
            case y473 => (intro W' hW; go_simp; try with_reducible rfl)
            try simp only [Act.put, List.getElem_toArray, List.getElem_cons_zero, List.getElem_cons_succ, List.setIfInBounds_toArray, List.set_cons_zero, List.set_cons_succ]
            refine tk 3 ?v474 ?y474 ?r474
            case y474 => (intro W' hW; go_simp; try with_reducible rfl)
            refine tk 4 ?v475 ?y475 ?r475
            case y475 => (intro W' hW; go_simp; try with_reducible rfl)
            refine tk 5 ?v476 ?y476 ?r476
            case y476 => (intro W' hW; go_simp; try with_reducible rfl)
            try simp only [Act.put, List.getElem_toArray, List.getElem_cons_zero, List.getElem_cons_succ, List.setIfInBounds_toArray, List.set_cons_zero, List.set_cons_succ]
            refine tk 6 ?v477 ?y477 ?r477
            case y477 => (intro W' hW; go_simp; try with_reducible rfl)
            refine tk 7 ?v478 ?y478 ?r478
            case y478 => (intro W' hW; go_simp; try with_reducible rfl)
            refine tk 8 ?v479 ?y479 ?r479
            case y479 => (intro W' hW; go_simp; try with_reducible rfl)
            try simp only [Act.put, List.getElem_toArray, List.getElem_cons_zero, List.getElem_cons_succ, List.setIfInBounds_toArray, List.set_cons_zero, List.set_cons_succ]
            refine tk 9 ?v480 ?y480 ?r480
            case y480 => (intro W' hW; go_simp; try with_reducible rfl)
            refine tk 10 ?v481 ?y481 ?r481
            case y481 => (intro W' hW; go_simp; try with_reducible rfl)
            refine wpAnyH_take (i := 11) (v := undef) rfl (by kernel_rfl) (by kernel_rfl) (by kernel_rfl) (fun _ _ _ h => h) (Or.inr ⟨by rfl, rfl⟩) (by assumption) ?r482
            try simp only [Act.put, List.getElem_toArray, List.getElem_cons_zero, List.getElem_cons_succ, List.setIfInBounds_toArray, List.set_cons_zero, List.set_cons_succ]
            refine wpAnyH_take (i := 12) (v := undef) rfl (by kernel_rfl) (by kernel_rfl) (by kernel_rfl) (fun _ _ _ h => h) (Or.inr ⟨by rfl, rfl⟩) (by assumption) ?r483
            refine wpAnyH_take (i := 13) (v := undef) rfl (by kernel_rfl) (by kernel_rfl) (by kernel_rfl) (fun _ _ _ h => h) (Or.inr ⟨by rfl, rfl⟩) (by assumption) ?r484
            refine wpAnyH_take (i := 14) (v := undef) rfl (by kernel_rfl) (by kernel_rfl) (by kernel_rfl) (fun _ _ _ h => h) (Or.inr ⟨by rfl, rfl⟩) (by assumption) ?r485
            try simp only [Act.put, List.getElem_toArray, List.getElem_cons_zero, List.getElem_cons_succ, List.setIfInBounds_toArray, List.set_cons_zero, List.set_cons_succ]
            refine wpAnyH_take (i := 15) (v := undef) rfl (by kernel_rfl) (by kernel_rfl) (by kernel_rfl) (fun _ _ _ h => h) (Or.inr ⟨by rfl, rfl⟩) (by assumption) ?r486
            refine wpAnyH_take (i := 16) (v := undef) rfl (by kernel_rfl) (by kernel_rfl) (by kernel_rfl) (fun _ _ _ h => h) (Or.inr ⟨by rfl, rfl⟩) (by assumption) ?r487
            refine tk 17 ?v488 ?y488 ?r488
            case y488 => (intro W' hW; go_simp; try with_reducible rfl)
            try simp only [Act.put, List.getElem_toArray, List.getElem_cons_zero, List.getElem_cons_succ, List.setIfInBounds_toArray, List.set_cons_zero, List.set_cons_succ]
            refine wpAnyH_ready (rs := [18]) (by kernel_rfl) (by simp) ?_
            refine AllReadyH.cons rfl (fun K hK => ?_) ?nil18
            case nil18 => exact AllReadyH.nil
            go_simp
            refine hK.out _ _ ⟨by rw [setRow_other _ _ _ _ (by omega)]; exact S3.r6⟩ (fun hHeld => ?_)
            clear hK K
            refine tk 19 ?v489 ?y489 ?r489
            case y489 => (intro W' hW; go_simp; try with_reducible rfl)
            try simp only [Act.put, List.getElem_toArray, List.getElem_cons_zero, List.getElem_cons_succ, List.setIfInBounds_toArray, List.set_cons_zero, List.set_cons_succ]
            refine wpAnyH_done (by kernel_rfl) ?_ _
            go_wp2
            refine bodyPost_ret (res173 Tryz.results100 _ _ w.heap.size (rhA hh) _ rfl rfl rfl (setRow_heap w3.drew _ _ _ 173 _ S3.r4)) rfl ⟨?_, ?_⟩
            · exact congrArg (fun x => Ending.returned (.tuple #[.agg (rhA hh), .bool x])) (by rw [HB.out, hk]; simp)
            · exact Below.setRow S3.bl.drew (Nat.le_refl _) _
      case true =>
        rw [hr] at d7
        by_cases ha : 1 ≤ (hh.alg : Int)
        · omega
        · have hk0 : (if hh.ret = true then decide (1 ≤ hh.alg ∧ hh.alg ≤ 3) else true && decide (0 < hh.alg)) = false := by rw [if_pos hr, decide_eq_false_iff_not]; omega
          have HK : Hid _ := hk0
          clear hr hk0
          go_wp2_with fail
          have hk := HK.out
          clear d0 d1 d2 d3 d4 d5 d6 d7 d8 d9 d10
          generalize w2.drew = w3 at *
          have hb4 : blk w3 w.heap.size = some (.cells zrhA 173 (0, 0)) := S3.r4
          have hb2 := HB2.out
          clear HB2
          cases b1
          case false =>
            refine wp_region_held_drew (S := fun W' => RdC W' (w.heap.size + 1) hh) (by kernel_rfl) (RdC.mk S3.r6) (fun hHeld => ?_)
            refine tk 0 ?v490 ?y490 ?r490
            case y490 => (intro W' hW; have hb6 : blk W' (w.heap.size + 1) = _ := hW.r6; go_simp; try with_reducible rfl)
            refine tk 1 ?v491 ?y491 ?r491
            case y491 => (intro W' hW; go_simp; try with_reducible rfl)
            refine tk 2 ?v492 ?y492 ?r492
            case y492 => (intro W' hW; go_simp; try with_reducible rfl)
            try simp only [Act.put, List.getElem_toArray, List.getElem_cons_zero, List.getElem_cons_succ, List.setIfInBounds_toArray, List.set_cons_zero, List.set_cons_succ]
            refine wpAnyH_take (i := 3) (v := undef) rfl (by kernel_rfl) (by kernel_rfl) (by kernel_rfl) (fun _ _ _ h => h) (Or.inr ⟨by rfl, rfl⟩) (by assumption) ?r493
            refine wpAnyH_take (i := 4) (v := undef) rfl (by kernel_rfl) (by kernel_rfl) (by kernel_rfl) (fun _ _ _ h => h) (Or.inr ⟨by rfl, rfl⟩) (by assumption) ?r494
            refine wpAnyH_take (i := 5) (v := undef) rfl (by kernel_rfl) (by kernel_rfl) (by kernel_rfl) (fun _ _ _ h => h) (Or.inr ⟨by rfl, rfl⟩) (by assumption) ?r495
            try simp only [Act.put, List.getElem_toArray, List.getElem_cons_zero, List.getElem_cons_succ, List.setIfInBounds_toArray, List.set_cons_zero, List.set_cons_succ]
            refine tk 6 ?v496 ?y496 ?r496
            case y496 => (intro W' hW; go_simp; try with_reducible rfl)
            refine tk 7 ?v497 ?y497 ?r497
            case y497 => (intro W' hW; go_simp; try with_reducible rfl)
            refine wpAnyH_take (i := 8) (v := undef) rfl (by kernel_rfl) (by kernel_rfl) (by kernel_rfl) (fun _ _ _ h => h) (Or.inr ⟨by rfl, rfl⟩) (by assumption) ?r498
            try simp only [Act.put, List.getElem_toArray, List.getElem_cons_zero, List.getElem_cons_succ, List.setIfInBounds_toArray, List.set_cons_zero, List.set_cons_succ]
            refine tk 9 ?v499 ?y499 ?r499
            case y499 => (intro W' hW; go_simp; try with_reducible rfl)
            refine tk 10 ?v500 ?y500 ?r500
            case y500 => (intro W' hW; go_simp; try with_reducible rfl)
            refine wpAnyH_take (i := 11) (v := undef) rfl (by kernel_rfl) (by kernel_rfl) (by kernel_rfl) (fun _ _ _ h => h) (Or.inr ⟨by rfl, rfl⟩) (by assumption) ?r501
            try simp only [Act.put, List.getElem_toArray, List.getElem_cons_zero, List.getElem_cons_succ, List.setIfInBounds_toArray, List.set_cons_zero, List.set_cons_succ]
            refine wpAnyH_take (i := 12) (v := undef) rfl (by kernel_rfl) (by kernel_rfl) (by kernel_rfl) (fun _ _ _ h => h) (Or.inr ⟨by rfl, rfl⟩) (by assumption) ?r502
            refine wpAnyH_take (i := 13) (v := undef) rfl (by kernel_rfl) (by kernel_rfl) (by kernel_rfl) (fun _ _ _ h => h) (Or.inr ⟨by rfl, rfl⟩) (by assumption) ?r503
            refine wpAnyH_take (i := 14) (v := undef) rfl (by kernel_rfl) (by kernel_rfl) (by kernel_rfl) (fun _ _ _ h => h) (Or.inr ⟨by rfl, rfl⟩) (by assumption) ?r504
            try simp only [Act.put, List.getElem_toArray, List.getElem_cons_zero, List.getElem_cons_succ, List.setIfInBounds_toArray, List.set_cons_zero, List.set_cons_succ]
            refine wpAnyH_take (i := 15) (v := undef) rfl (by kernel_rfl) (by kernel_rfl) (by kernel_rfl) (fun _ _ _ h => h) (Or.inr ⟨by rfl, rfl⟩) (by assumption) ?r505
            refine wpAnyH_take (i := 16) (v := undef) rfl (by kernel_rfl) (by kernel_rfl) (by kernel_rfl) (fun _ _ _ h => h) (Or.inr ⟨by rfl, rfl⟩) (by assumption) ?r506
            refine tk 17 ?v507 ?y507 ?r507
            case y507 => (intro W' hW; go_simp; try with_reducible rfl)
            try simp only [Act.put, List.getElem_toArray, List.getElem_cons_zero, List.getElem_cons_succ, List.setIfInBounds_toArray, List.set_cons_zero, List.set_cons_succ]
            refine wpAnyH_ready (rs := [18]) (by kernel_rfl) (by simp) ?_
            refine AllReadyH.cons rfl (fun K hK => ?_) ?nil18
            case nil18 => exact AllReadyH.nil
            go_simp
            refine hK.out _ _ ⟨by rw [setRow_other _ _ _ _ (by omega)]; exact S3.r6⟩ (fun hHeld => ?_)
            clear hK K
            refine tk 19 ?v508 ?y508 ?r508
            case y508 => (intro W' hW; go_simp; try with_reducible rfl)
            try simp only [Act.put, List.getElem_toArray, List.getElem_cons_zero, List.getElem_cons_succ, List.setIfInBounds_toArray, List.set_cons_zero, List.set_cons_succ]
            refine wpAnyH_done (by kernel_rfl) ?_ _
            go_wp2
            refine bodyPost_ret (res173 Tryz.results100 _ _ w.heap.size (rhA hh) _ rfl rfl rfl (setRow_heap w3.drew _ _ _ 173 _ S3.r4)) rfl ⟨?_, ?_⟩
            · exact congrArg (fun x => Ending.returned (.tuple #[.agg (rhA hh), .bool x])) (by rw [HB.out, hk]; simp)
            · exact Below.setRow S3.bl.drew (Nat.le_refl _) _
          case true =>
            cases b2
            case false =>
              refine wp_region_held_drew (S := fun W' => RdC W' (w.heap.size + 1) hh) (by kernel_rfl) (RdC.mk S3.r6) (fun hHeld => ?_)
              refine tk 0 ?v509 ?y509 ?r509
              case y509 => (intro W' hW; have hb6 : blk W' (w.heap.size + 1) = _ := hW.r6; go_simp; try with_reducible rfl)
              refine tk 1 ?v510 ?y510 ?r510
              case y510 => (intro W' hW; go_simp; try with_reducible rfl)
              refine tk 2 ?v511 ?y511 ?r511
              case y511 => (intro W' hW; go_simp; try with_reducible rfl)
              try simp only [Act.put, List.getElem_toArray, List.getElem_cons_zero, List.getElem_cons_succ, List.setIfInBounds_toArray, List.set_cons_zero, List.set_cons_succ]
              refine tk 3 ?v512 ?y512 ?r512
              case y512 => (intro W' hW; go_simp; try with_reducible rfl)
              refine tk 4 ?v513 ?y513 ?r513
              case y513 => (intro W' hW; go_simp; try with_reducible rfl)
              refine tk 5 ?v514 ?y514 ?r514
              case y514 => (intro W' hW; go_simp; try with_reducible rfl)
              try simp only [Act.put, List.getElem_toArray, List.getElem_cons_zero, List.getElem_cons_succ, List.setIfInBounds_toArray, List.set_cons_zero, List.set_cons_succ]
              refine tk 6 ?v515 ?y515 ?r515
              case y515 => (intro W' hW; go_simp; try with_reducible rfl)
              refine tk 7 ?v516 ?y516 ?r516
              case y516 => (intro W' hW; go_simp; try with_reducible rfl)
              refine wpAnyH_take (i := 8) (v := undef) rfl (by kernel_rfl) (by kernel_rfl) (by kernel_rfl) (fun _ _ _ h => h) (Or.inr ⟨by rfl, rfl⟩) (by assumption) ?r517
              try simp only [Act.put, List.getElem_toArray, List.getElem_cons_zero, List.getElem_cons_succ, List.setIfInBounds_toArray, List.set_cons_zero, List.set_cons_succ]
              refine tk 9 ?v518 ?y518 ?r518
              case y518 => (intro W' hW; go_simp; try with_reducible rfl)
              refine tk 10 ?v519 ?y519 ?r519
              case y519 => (intro W' hW; go_simp; try with_reducible rfl)
              refine wpAnyH_take (i := 11) (v := undef) rfl (by kernel_rfl) (by kernel_rfl) (by kernel_rfl) (fun _ _ _ h => h) (Or.inr ⟨by rfl, rfl⟩) (by assumption) ?r520
              try simp only [Act.put, List.getElem_toArray, List.getElem_cons_zero, List.getElem_cons_succ, List.setIfInBounds_toArray, List.set_cons_zero, List.set_cons_succ]
              refine wpAnyH_take (i := 12) (v := undef) rfl (by kernel_rfl) (by kernel_rfl) (by kernel_rfl) (fun _ _ _ h => h) (Or.inr ⟨by rfl, rfl⟩) (by assumption) ?r521
              refine wpAnyH_take (i := 13) (v := undef) rfl (by kernel_rfl) (by kernel_rfl) (by kernel_rfl) (fun _ _ _ h => h) (Or.inr ⟨by rfl, rfl⟩) (by assumption) ?r522
              refine wpAnyH_take (i := 14) (v := undef) rfl (by kernel_rfl) (by kernel_rfl) (by kernel_rfl) (fun _ _ _ h => h) (Or.inr ⟨by rfl, rfl⟩) (by assumption) ?r523
              try simp only [Act.put, List.getElem_toArray, List.getElem_cons_zero, List.getElem_cons_succ, List.setIfInBounds_toArray, List.set_cons_zero, List.set_cons_succ]
              refine wpAnyH_take (i := 15) (v := undef) rfl (by kernel_rfl) (by kernel_rfl) (by kernel_rfl) (fun _ _ _ h => h) (Or.inr ⟨by rfl, rfl⟩) (by assumption) ?r524
              refine wpAnyH_take (i := 16) (v := undef) rfl (by kernel_rfl) (by kernel_rfl) (by kernel_rfl) (fun _ _ _ h => h) (Or.inr ⟨by rfl, rfl⟩) (by assumption) ?r525
              refine tk 17 ?v526 ?y526 ?r526
              case y526 => (intro W' hW; go_simp; try with_reducible rfl)
              try simp only [Act.put, List.getElem_toArray, List.getElem_cons_zero, List.getElem_cons_succ, List.setIfInBounds_toArray, List.set_cons_zero, List.set_cons_succ]
              refine wpAnyH_ready (rs := [18]) (by kernel_rfl) (by simp) ?_
              refine AllReadyH.cons rfl (fun K hK => ?_) ?nil18
              case nil18 => exact AllReadyH.nil
              go_simp
              refine hK.out _ _ ⟨by rw [setRow_other _ _ _ _ (by omega)]; exact S3.r6⟩ (fun hHeld => ?_)
              clear hK K
              refine tk 19 ?v527 ?y527 ?r527
              case y527 => (intro W' hW; go_simp; try with_reducible rfl)
              try simp only [Act.put, List.getElem_toArray, List.getElem_cons_zero, List.getElem_cons_succ, List.setIfInBounds_toArray, List.set_cons_zero, List.set_cons_succ]
              refine wpAnyH_done (by kernel_rfl) ?_ _
              go_wp2
              refine bodyPost_ret (res173 Tryz.results100 _ _ w.heap.size (rhA hh) _ rfl rfl rfl (setRow_heap w3.drew _ _ _ 173 _ S3.r4)) rfl ⟨?_, ?_⟩
              · exact congrArg (fun x => Ending.returned (.tuple #[.agg (rhA hh), .bool x])) (by rw [HB.out, hk]; simp)
              · exact Below.setRow S3.bl.drew (Nat.le_refl _) _
            case true =>
              refine wp_region_held_drew (S := fun W' => RdC W' (w.heap.size + 1) hh) (by kernel_rfl) (RdC.mk S3.r6) (fun hHeld => ?_)
              refine tk 0 ?v528 ?y528 ?r528
              case y528 => (intro W' hW; have hb6 : blk W' (w.heap.size + 1) = _ := hW.r6; go_simp; try with_reducible rfl)
              refine tk 1 ?v529 ?y529 ?r529
              case y529 => (intro W' hW; go_simp; try with_reducible rfl)
              refine tk 2 ?v530 ?y530 ?r530
              case y530 => (intro W' hW; go_simp; try with_reducible rfl)
              try simp only [Act.put, List.getElem_toArray, List.getElem_cons_zero, List.getElem_cons_succ, List.setIfInBounds_toArray, List.set_cons_zero, List.set_cons_succ]
              refine tk 3 ?v531 ?y531 ?r531
              case y531 => (intro W' hW; go_simp; try with_reducible rfl)
              refine tk 4 ?v532 ?y532 ?r532
              case y532 => (intro W' hW; go_simp; try with_reducible rfl)
              refine tk 5 ?v533 ?y533 ?r533
              case y533 => (intro W' hW; go_simp; try with_reducible rfl)
              try simp only [Act.put, List.getElem_toArray, List.getElem_cons_zero, List.getElem_cons_succ, List.setIfInBounds_toArray, List.set_cons_zero, List.set_cons_succ]
              refine tk 6 ?v534 ?y534 ?r534
              case y534 => (intro W' hW; go_simp; try with_reducible rfl)
              refine tk 7 ?v535 ?y535 ?r535
              case y535 => (intro W' hW; go_simp; try with_reducible rfl)
              refine tk 8 ?v536 ?y536 ?r536
              case y536 => (intro W' hW; go_simp; try with_reducible rfl)
              try simp only [Act.put, List.getElem_toArray, List.getElem_cons_zero, List.getElem_cons_succ, List.setIfInBounds_toArray, List.set_cons_zero, List.set_cons_succ]
              refine tk 9 ?v537 ?y537 ?r537
              case y537 => (intro W' hW; go_simp; try with_reducible rfl)
              refine tk 10 ?v538 ?y538 ?r538
              case y538 => (intro W' hW; go_simp; try with_reducible rfl)
              refine wpAnyH_take (i := 11) (v := undef) rfl (by kernel_rfl) (by kernel_rfl) (by kernel_rfl) (fun _ _ _ h => h) (Or.inr ⟨by rfl, rfl⟩) (by assumption) ?r539
              try simp only [Act.put, List.getElem_toArray, List.getElem_cons_zero, List.getElem_cons_succ, List.setIfInBounds_toArray, List.set_cons_zero, List.set_cons_succ]
              refine wpAnyH_take (i := 12) (v := undef) rfl (by kernel_rfl) (by kernel_rfl) (by kernel_rfl) (fun _ _ _ h => h) (Or.inr ⟨by rfl, rfl⟩) (by assumption) ?r540
              refine wpAnyH_take (i := 13) (v := undef) rfl (by kernel_rfl) (by kernel_rfl) (by kernel_rfl) (fun _ _ _ h => h) (Or.inr ⟨by rfl, rfl⟩) (by assumption) ?r541
              refine wpAnyH_take (i := 14) (v := undef) rfl (by kernel_rfl) (by kernel_rfl) (by kernel_rfl) (fun _ _ _ h => h) (Or.inr ⟨by rfl, rfl⟩) (by assumption) ?r542
              try simp only [Act.put, List.getElem_toArray, List.getElem_cons_zero, List.getElem_cons_succ, List.setIfInBounds_toArray, List.set_cons_zero, List.set_cons_succ]
              refine wpAnyH_take (i := 15) (v := undef) rfl (by kernel_rfl) (by kernel_rfl) (by kernel_rfl) (fun _ _ _ h => h) (Or.inr ⟨by rfl, rfl⟩) (by assumption) ?r543
              refine wpAnyH_take (i := 16) (v := undef) rfl (by kernel_rfl) (by kernel_rfl) (by kernel_rfl) (fun _ _ _ h => h) (Or.inr ⟨by rfl, rfl⟩) (by assumption) ?r544
              refine tk 17 ?v545 ?y545 ?r545
              case y545 => (intro W' hW; go_simp; try with_reducible rfl)
              try simp only [Act.put, List.getElem_toArray, List.getElem_cons_zero, List.getElem_cons_succ, List.setIfInBounds_toArray, List.set_cons_zero, List.set_cons_succ]
              refine wpAnyH_ready (rs := [18]) (by kernel_rfl) (by simp) ?_
              refine AllReadyH.cons rfl (fun K hK => ?_) ?nil18
              case nil18 => exact AllReadyH.nil
              go_simp
              refine hK.out _ _ ⟨by rw [setRow_other _ _ _ _ (by omega)]; exact S3.r6⟩ (fun hHeld => ?_)
              clear hK K
              refine tk 19 ?v546 ?y546 ?r546
              case y546 => (intro W' hW; go_simp; try with_reducible rfl)
              try simp only [Act.put, List.getElem_toArray, List.getElem_cons_zero, List.getElem_cons_succ, List.setIfInBounds_toArray, List.set_cons_zero, List.set_cons_succ]
              refine wpAnyH_done (by kernel_rfl) ?_ _
              go_wp2
              refine bodyPost_ret (res173 Tryz.results100 _ _ w.heap.size (rhA hh) _ rfl rfl rfl (setRow_heap w3.drew _ _ _ 173 _ S3.r4)) rfl ⟨?_, ?_⟩
              · exact congrArg (fun x => Ending.returned (.tuple #[.agg (rhA hh), .bool x])) (by rw [HB.out, hk]; simp)
              · exact Below.setRow S3.bl.drew (Nat.le_refl _) _
end Go.Proofs.YtgalgjmhdbncbaaGreat
