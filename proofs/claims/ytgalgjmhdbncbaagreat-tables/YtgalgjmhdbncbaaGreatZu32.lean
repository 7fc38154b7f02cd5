import Derived.Test.YtgalgjmhdbncbaaGreatZu00
import Derived.Test.YtgalgjmhdbncbaaGreatZu29
import Derived.Test.YtgalgjmhdbncbaaGreatZu31
namespace Go.Proofs.YtgalgjmhdbncbaaGreat
open Go.RowKit
attribute [local go_sem ↓] Go.wp_at_zero Go.wp_at_succ
theorem ldw173 (v : Value) : Instr.loadAt 173 v = LdT 173 v := rfl
theorem run_ldT173 (g off : Nat) (w : World) : Sem.run Tryz.prog (LdT 173 (.pointer (some ⟨g, off, none⟩))) w = ldN (blk w g) off 11 w (ldO Tryz.prog 173 g off w) := run_ldT 173 11 _ Tryz.underlying173 rfl (by kernel_rfl) g off w
theorem ldN_rh (v0 v1 v2 v3 v4 v5 v6 v7 v8 v9 v10 : Value) (w : World) (r : Result Value) : ldN (some (.cells #[v0, v1, v2, v3, v4, v5, v6, v7, v8, v9, v10] 173 (0, 0))) 0 11 w r = .ok (.agg #[v0, v1, v2, v3, v4, v5, v6, v7, v8, v9, v10]) w := by
  unfold ldN
  exact if_pos ⟨rfl, Nat.le_refl _⟩
theorem res173 {fn : Func} {p u : Tmp} (h : fn.results = #[.cell p 173, .tmp u]) (tmps : Array Value) (w : World) (g : Nat) (cs : Array Value) (v : Value) (hcs : cs.size = 11)
    (hp : tmps.getD p undef = .pointer (some ⟨g, 0, none⟩)) (hv : tmps.getD u undef = v) (hg : w.heap[g]? = some (.cells cs 173 (0, 0))) : (results fn tmps).run Tryz.prog w = .ok (.tuple #[.agg cs, v]) w := by
  have hp' : tmps[p]?.getD undef = .pointer (some ⟨g, 0, none⟩) := by simpa using hp
  have hv' : tmps[u]?.getD undef = v := by simpa using hv
  have hl := run_loadVar_row (P := Tryz.prog) w g 173 173 _ (0, 0) _ hg Tryz.underlying173 rfl (by rw [hcs]; kernel_rfl)
  simp [results, h, hp', hv', asAddr, hl]
attribute [local go_sem ↓] al173 stw173 ldw173
attribute [local go_sem] run_al173 run_stT173 stN_rh run_ldT173 ldN_rh blk_new blk_at blk_old blk_drew blk_setCell blk_setRow alloc_setRow

structure RdS (w W : World) (h : Rh) : Prop where
  r6 : W.heap[w.heap.size + 1]? = some (.cells #[.int .i64 h.alg, .int .i64 h.id, .string h.fix, .int .i64 h.seals, .int .i64 h.ahead, .int .i64 h.most, .int .i64 h.res, .bool h.ret, .string h.key, .int .i64 h.pos, .int .i64 h.ctr] 173 (0, 0))
  r4 : W.heap[w.heap.size]? = some (.cells zrhA 173 (0, 0))
  bl : Below w.heap.size w W
theorem RdS.lt {w W : World} {h : Rh} (s : RdS w W h) : w.heap.size + 1 < W.heap.size := by
  rcases Nat.lt_or_ge (w.heap.size + 1) W.heap.size with hlt | hge
  · exact hlt
  · have := s.r6; rw [Array.getElem?_eq_none hge] at this; cases this
theorem RdS.keep {w W W' : World} {h : Rh} (s : RdS w W h) (hb : Below W.heap.size W W') : RdS w W' h := ⟨by rw [hb.block _ s.lt]; exact s.r6, by rw [hb.block _ (by have := s.lt; omega)]; exact s.r4, s.bl.trans (hb.mono (by have := s.lt; omega))⟩
theorem RdS.drew {w W : World} {h : Rh} (s : RdS w W h) : RdS w W.drew h := ⟨s.r6, s.r4, s.bl.drew⟩
theorem RdS.cs {w W : World} {h : Rh} (s : RdS w W h) : W.cell? ⟨w.heap.size + 1, 0, none⟩ = some (.int .i64 h.alg) ∧ W.cell? ⟨w.heap.size + 1, 1, none⟩ = some (.int .i64 h.id) ∧ W.cell? ⟨w.heap.size + 1, 2, none⟩ = some (.string h.fix) ∧ W.cell? ⟨w.heap.size + 1, 3, none⟩ = some (.int .i64 h.seals) ∧ W.cell? ⟨w.heap.size + 1, 4, none⟩ = some (.int .i64 h.ahead) ∧ W.cell? ⟨w.heap.size + 1, 5, none⟩ = some (.int .i64 h.most) ∧ W.cell? ⟨w.heap.size + 1, 6, none⟩ = some (.int .i64 h.res) ∧ W.cell? ⟨w.heap.size + 1, 7, none⟩ = some (.bool h.ret) ∧ W.cell? ⟨w.heap.size + 1, 8, none⟩ = some (.string h.key) ∧ W.cell? ⟨w.heap.size + 1, 9, none⟩ = some (.int .i64 h.pos) ∧ W.cell? ⟨w.heap.size + 1, 10, none⟩ = some (.int .i64 h.ctr) := cells11 s.r6
structure RdC (W : World) (g : Nat) (h : Rh) : Prop where
  r6 : W.heap[g]? = some (.cells #[.int .i64 h.alg, .int .i64 h.id, .string h.fix, .int .i64 h.seals, .int .i64 h.ahead, .int .i64 h.most, .int .i64 h.res, .bool h.ret, .string h.key, .int .i64 h.pos, .int .i64 h.ctr] 173 (0, 0))
theorem RdC.cs {W : World} {g : Nat} {h : Rh} (s : RdC W g h) : W.cell? ⟨g, 0, none⟩ = some (.int .i64 h.alg) ∧ W.cell? ⟨g, 1, none⟩ = some (.int .i64 h.id) ∧ W.cell? ⟨g, 2, none⟩ = some (.string h.fix) ∧ W.cell? ⟨g, 3, none⟩ = some (.int .i64 h.seals) ∧ W.cell? ⟨g, 4, none⟩ = some (.int .i64 h.ahead) ∧ W.cell? ⟨g, 5, none⟩ = some (.int .i64 h.most) ∧ W.cell? ⟨g, 6, none⟩ = some (.int .i64 h.res) ∧ W.cell? ⟨g, 7, none⟩ = some (.bool h.ret) ∧ W.cell? ⟨g, 8, none⟩ = some (.string h.key) ∧ W.cell? ⟨g, 9, none⟩ = some (.int .i64 h.pos) ∧ W.cell? ⟨g, 10, none⟩ = some (.int .i64 h.ctr) := cells11 s.r6
theorem rd_sets {W : World} {g : Nat} {a z1 f z3 z4 z5 z6 r k p z10 : Value} (v1 v3 v4 v5 v6 v10 : Value) (h : W.heap[g]? = some (.cells #[a, z1, f, z3, z4, z5, z6, r, k, p, z10] 173 (0, 0))) :
    ((((((W.setCell ⟨g, 1, none⟩ v1).setCell ⟨g, 3, none⟩ v3).setCell ⟨g, 4, none⟩ v4).setCell ⟨g, 5, none⟩ v5).setCell ⟨g, 6, none⟩ v6).setCell ⟨g, 10, none⟩ v10).heap[g]? = some (.cells #[a, v1, f, v3, v4, v5, v6, r, k, p, v10] 173 (0, 0)) := by
  have h1 := heap_setCell_same W g 1 _ 173 v1 h
  have h3 := heap_setCell_same _ g 3 _ 173 v3 h1
  have h4 := heap_setCell_same _ g 4 _ 173 v4 h3
  have h5 := heap_setCell_same _ g 5 _ 173 v5 h4
  have h6 := heap_setCell_same _ g 6 _ 173 v6 h5
  have h10 := heap_setCell_same _ g 10 _ 173 v10 h6
  exact h10
set_option maxRecDepth 100000 in
set_option maxHeartbeats 8000000 in
theorem read_mid (s : ByteArray) (q b1 b2 b : Bool) (hh : Rh) (hct : hh.ctr = hh.res) (hs : 15 ≤ s.size) (hz : s.size ≤ 64) (eA : (sf s 1).toNat = hh.alg) (e10 : (sf s 10).toNat = hh.ahead) (e11 : (sf s 11).toNat = hh.most)
    (efx : s.extract 4 8 = hh.fix) (eky : s.extract 15 s.size = hh.key) (eI : valF (sf s) 2 2 = hh.id) (eSe : valF (sf s) 8 2 = hh.seals) (eR : valF (sf s) 12 2 = hh.res) (er : (((sf s 14).toNat : Int) == 2) = hh.ret)
    (hA : hh.alg < 256) (h10 : hh.ahead < 256) (h11 : hh.most < 256) (hI : hh.id < 65536) (hSe : hh.seals < 65536) (hR : hh.res < 65536) (hq : ((algN hh.key.size : Int) == (hh.alg : Int)) = q) (hb1 : cfgB hh.seals hh.ahead hh.most = b1) (hb2 : ((rhT hh).toList == s.toList) = b2)
    (hb : b = (b1 && b2 && (if hh.ret then decide (1 ≤ hh.alg ∧ hh.alg ≤ 3) else q && decide (0 < hh.alg)) && decide (hh.res ≤ hh.seals))) (w : World) :
    Calls Tryz.prog 100 #[.string s, .int .i64 hh.pos] w fun e w' => e = .returned (.tuple #[.agg (rhA hh), .bool b]) ∧ Below w.heap.size w w' := by
  have EV : Hid _ := And.intro eI (And.intro eSe eR)
  have E1 : Hid _ := And.intro eA (And.intro e10 (And.intro e11 (And.intro efx (And.intro eky er))))
  clear eI eSe eR eA e10 e11 efx eky er
  have z1 : hh.fix.size ≤ 1000 := by
    have e := congrArg ByteArray.size E1.out.2.2.2.1
    rw [ByteArray.size_extract] at e
    omega
  have z2 : hh.key.size ≤ 1000 := by
    have e := congrArg ByteArray.size E1.out.2.2.2.2.1
    rw [ByteArray.size_extract] at e
    omega
  have hsm : RhSm hh := by
    exact ⟨by omega, hI, z1, hSe, by omega, by omega, hR, z2⟩
  have i1 := sfi s 1 (by omega)
  have i14 := sfi s 14 (by omega)
  have i10 := sfi s 10 (by omega)
  have i11 := sfi s 11 (by omega)
  have l1 : (1 : Int) < s.size := by omega
  have l14 : (14 : Int) < s.size := by omega
  have l10 : (10 : Int) < s.size := by omega
  have l11 : (11 : Int) < s.size := by omega
  have l8 : (8 : Int) ≤ s.size := by omega
  have l15 : (15 : Int) ≤ s.size := by omega
  have k1 : wrap64 (hh.alg : Int) = hh.alg := by unfold wrap64; omega
  have k10 : wrap64 (hh.ahead : Int) = hh.ahead := by unfold wrap64; omega
  have k11 : wrap64 (hh.most : Int) = hh.most := by unfold wrap64; omega
  have v1 := fun w => value_ref s 2 2 (by omega) (by omega) (by omega) w
  have v2 := fun w => value_ref s 8 2 (by omega) (by omega) (by omega) w
  have v3 := fun w => value_ref s 12 2 (by omega) (by omega) (by omega) w
  rw [EV.out.1] at v1
  rw [EV.out.2.1] at v2
  rw [EV.out.2.2] at v3
  have tx := fun w => rtext_any hh hsm w
  have rr := fun w => rright_any hh.seals hh.ahead hh.most w
  rw [hb1] at rr
  have T : Hid _ := tx
  have RR : Hid _ := rr
  have V1 : Hid _ := v1
  have V2 : Hid _ := v2
  have V3 : Hid _ := v3
  have HB : Hid _ := hb
  have HB2 : Hid _ := hb2
  have HC : Hid _ := hct
  have HQ : Hid _ := hq
  have E2 : Hid _ := And.intro hA (And.intro h10 (And.intro h11 (And.intro hI (And.intro hSe hR))))
  have E3 : Hid _ := And.intro k1 (And.intro k10 k11)
  have I1 : Hid _ := And.intro i10 i11
  clear v1 v2 v3 hsm tx rr hb hb1 hb2 hct hq z1 z2 hA h10 h11 hI hSe hR k1 k10 k11 i10 i11
  go_enter Tryz.func100, Tryz.ntmps100
  go_wp2_with fail
  go_region
  suffices HH : ∀ W, W.heap[w.heap.size + 1]? = some (.cells #[.int .i64 hh.alg, .int .i64 0, .string hh.fix, .int .i64 0, .int .i64 0, .int .i64 0, .int .i64 0, .bool hh.ret, .string hh.key, .int .i64 hh.pos, .int .i64 0] 173 (0, 0)) → W.heap[w.heap.size]? = some (.cells zrhA 173 (0, 0)) → Below w.heap.size w W → Exit.then _ _ _ _ W by
    refine HH _ ?_ ?_ ?_
    · obtain ⟨eA, e10, e11, efx, eky, er⟩ := E1.out
      rw [← E3.out.1, ← eA, ← efx, ← er, ← eky]
      exact setRow_heap _ _ _ _ 173 _ (heap_of_new _ _ _ (by simp))
    · rw [setRow_other _ _ _ _ (by omega)]
      exact heap_of_old (w.alloc (.cells zrhA 173)) _ _ _ (by simp) (heap_of_new _ _ _ rfl)
    · exact Below.setRow (((Below.refl _ w).alloc (Nat.le_refl _) _).alloc (by simp) _).drew (by omega) _
  intro W r6 r4 hB
  obtain ⟨d0, d1, d2, d3, d4, d5, d6, d7, d8, d9, d10⟩ := cells11 r6
  have ff := fun j => frozen_of_row _ _ j _ _ r6
  obtain ⟨k1, k10, k11⟩ := E3.out
  obtain ⟨eA, e10, e11, efx, eky, er⟩ := E1.out
  obtain ⟨i10, i11⟩ := I1.out
  clear eA efx eky er k1 i1 i14
  go_wp2_with fail
  refine (V1.out _).mono ?_
  rintro e wa ⟨rfl, hwa⟩
  subst hwa
  go_wp2_with fail
  refine (V2.out _).mono ?_
  rintro e wa ⟨rfl, hwa⟩
  subst hwa
  go_wp2_with fail
  refine (V3.out _).mono ?_
  rintro e wa ⟨rfl, hwa⟩
  subst hwa
  go_wp2_with fail
  refine (RR.out _).mono ?_
  rintro e w1 ⟨rfl, b1'⟩
  have S0 := RdS.keep (h := hh) ⟨by rw [HC.out]; exact rd_sets _ _ _ _ _ _ r6, by rw [heap_skip _ _ _ _ _ (by omega), heap_skip _ _ _ _ _ (by omega), heap_skip _ _ _ _ _ (by omega), heap_skip _ _ _ _ _ (by omega), heap_skip _ _ _ _ _ (by omega), heap_skip _ _ _ _ _ (by omega)]; exact r4, (((((hB.setCell (by dsimp only; omega) _).setCell (by dsimp only; omega) _).setCell (by dsimp only; omega) _).setCell (by dsimp only; omega) _).setCell (by dsimp only; omega) _).setCell (by dsimp only; omega) _⟩ b1'
  clear b1' r6 r4 hB d0 d1 d2 d3 d4 d5 d6 d7 d8 d9 d10 ff k10 k11 e10 e11 i10 i11 V1 V2 V3 RR
  have hb6 : blk w1 (w.heap.size + 1) = _ := S0.r6
  unfold rhA at T
  go_wp2_with fail
  refine (T.out _).mono ?_
  rintro e w2 ⟨rfl, b2'⟩
  have S2 := S0.keep b2'
  clear S0 b2' hb6 T
  go_wp2_with fail
  have hq := HQ.out
  clear HQ
  cases q
  case false =>
    refine wp_region_held_drew (S := fun W' => RdS w W' hh) (by kernel_rfl) S2.drew (fun hHeld => ?_)
    refine tp 0 _ ?r1
    refine nz ?_
    refine tk 1 ?v2 ?y2 ?r2
    case y2 => (intro W' hW; obtain ⟨d0, d1, d2, d3, d4, d5, d6, d7, d8, d9, d10⟩ := hW.cs; go_simp; try with_reducible rfl)
    refine nz ?_
    refine tp 3 _ ?r3
    refine nz ?_
    refine tk 4 ?v4 ?y4 ?r4
    case y4 => (intro W' hW; obtain ⟨d0, d1, d2, d3, d4, d5, d6, d7, d8, d9, d10⟩ := hW.cs; go_simp; try with_reducible rfl)
    refine nz ?_
    refine wpAnyH_ready (rs := [2]) (by kernel_rfl) (by simp) ?_
    refine AllReadyH.cons rfl (fun K hK => ?_) ?nil2
    case nil2 => exact AllReadyH.nil
    go_simp
    refine (rAlg_any _ _).mono ?_
    rintro e wa ⟨rfl, hwa⟩
    subst hwa
    go_wp2_with fail
    refine hK.out _ _ hHeld (fun hHeld => ?_)
    clear hK K
    refine tp 5 _ ?r5
    refine nz ?_
    refine tp 6 _ ?r6
    refine nz ?_
    refine wpAnyH_take (i := 7) (v := undef) rfl (by kernel_rfl) (by kernel_rfl) (by kernel_rfl) (fun _ _ _ h => h) (Or.inr ⟨by rfl, rfl⟩) (by assumption) ?r7
    refine nz ?_
    refine wpAnyH_take (i := 8) (v := undef) rfl (by kernel_rfl) (by kernel_rfl) (by kernel_rfl) (fun _ _ _ h => h) (Or.inr ⟨by rfl, rfl⟩) (by assumption) ?r8
    refine nz ?_
    refine wpAnyH_take (i := 9) (v := undef) rfl (by kernel_rfl) (by kernel_rfl) (by kernel_rfl) (fun _ _ _ h => h) (Or.inr ⟨by rfl, rfl⟩) (by assumption) ?r9
    refine nz ?_
    refine tp 10 _ ?r10
    refine nz ?_
    refine tp 11 _ ?r11
    refine nz ?_
    refine wpAnyH_done (by kernel_rfl) ?_ _
    have S3 := hHeld
    clear hHeld S2
    obtain ⟨d0, d1, d2, d3, d4, d5, d6, d7, d8, d9, d10⟩ := S3.cs
    cases hr : hh.ret
    case false =>
      rw [hr] at d7
      have hk : (if hh.ret = true then decide (1 ≤ hh.alg ∧ hh.alg ≤ 3) else false && decide (0 < hh.alg)) = false := by rw [if_neg (by rw [hr]; decide)]; rfl
      have HK : Hid _ := hk
      clear hk hr
      go_wp2_with fail
      have hk := HK.out
      clear d0 d1 d2 d3 d4 d5 d6 d7 d8 d9 d10
      generalize w2.drew = w3 at *
      have hb4 : blk w3 w.heap.size = some (.cells zrhA 173 (0, 0)) := S3.r4
      have hb2 := HB2.out
      clear HB2
      cases b1
      case false =>
        refine wp_region_held_drew (S := fun W' => RdC W' (w.heap.size + 1) hh) (by kernel_rfl) (RdC.mk S3.r6) (fun hHeld => ?_)
        refine tk 0 ?v12 ?y12 ?r12
        case y12 => (intro W' hW; have hb6 : blk W' (w.heap.size + 1) = _ := hW.r6; go_simp; try with_reducible rfl)
        refine nz ?_
        refine tp 1 _ ?r13
        refine nz ?_
        refine tp 2 _ ?r14
        refine nz ?_
        refine wpAnyH_take (i := 3) (v := undef) rfl (by kernel_rfl) (by kernel_rfl) (by kernel_rfl) (fun _ _ _ h => h) (Or.inr ⟨by rfl, rfl⟩) (by assumption) ?r15
        refine nz ?_
        refine wpAnyH_take (i := 4) (v := undef) rfl (by kernel_rfl) (by kernel_rfl) (by kernel_rfl) (fun _ _ _ h => h) (Or.inr ⟨by rfl, rfl⟩) (by assumption) ?r16
        refine nz ?_
        refine wpAnyH_take (i := 5) (v := undef) rfl (by kernel_rfl) (by kernel_rfl) (by kernel_rfl) (fun _ _ _ h => h) (Or.inr ⟨by rfl, rfl⟩) (by assumption) ?r17
        refine nz ?_
        refine tp 6 _ ?r18
        refine nz ?_
        refine tp 7 _ ?r19
        refine nz ?_
        refine wpAnyH_take (i := 8) (v := undef) rfl (by kernel_rfl) (by kernel_rfl) (by kernel_rfl) (fun _ _ _ h => h) (Or.inr ⟨by rfl, rfl⟩) (by assumption) ?r20
        refine nz ?_
        refine tp 9 _ ?r21
        refine nz ?_
        refine tp 10 _ ?r22
        refine nz ?_
        refine wpAnyH_take (i := 11) (v := undef) rfl (by kernel_rfl) (by kernel_rfl) (by kernel_rfl) (fun _ _ _ h => h) (Or.inr ⟨by rfl, rfl⟩) (by assumption) ?r23
        refine nz ?_
        refine wpAnyH_take (i := 12) (v := undef) rfl (by kernel_rfl) (by kernel_rfl) (by kernel_rfl) (fun _ _ _ h => h) (Or.inr ⟨by rfl, rfl⟩) (by assumption) ?r24
        refine nz ?_
        refine wpAnyH_take (i := 13) (v := undef) rfl (by kernel_rfl) (by kernel_rfl) (by kernel_rfl) (fun _ _ _ h => h) (Or.inr ⟨by rfl, rfl⟩) (by assumption) ?r25
        refine nz ?_
        refine wpAnyH_take (i := 14) (v := undef) rfl (by kernel_rfl) (by kernel_rfl) (by kernel_rfl) (fun _ _ _ h => h) (Or.inr ⟨by rfl, rfl⟩) (by assumption) ?r26
        refine nz ?_
        refine wpAnyH_take (i := 15) (v := undef) rfl (by kernel_rfl) (by kernel_rfl) (by kernel_rfl) (fun _ _ _ h => h) (Or.inr ⟨by rfl, rfl⟩) (by assumption) ?r27
        refine nz ?_
        refine wpAnyH_take (i := 16) (v := undef) rfl (by kernel_rfl) (by kernel_rfl) (by kernel_rfl) (fun _ _ _ h => h) (Or.inr ⟨by rfl, rfl⟩) (by assumption) ?r28
        refine nz ?_
        refine tp 17 _ ?r29
        refine nz ?_
        refine wpAnyH_ready (rs := [18]) (by kernel_rfl) (by simp) ?_
        refine AllReadyH.cons rfl (fun K hK => ?_) ?nil18
        case nil18 => exact AllReadyH.nil
        go_simp
        refine hK.out _ _ ⟨by rw [setRow_other _ _ _ _ (by omega)]; exact S3.r6⟩ (fun hHeld => ?_)
        clear hK K
        refine tp 19 _ ?r30
        refine nz ?_
        refine wpAnyH_done (by kernel_rfl) ?_ _
        go_wp2
        refine bodyPost_ret (res173 Tryz.results100 _ _ w.heap.size (rhA hh) _ rfl rfl rfl (setRow_heap w3.drew _ _ _ 173 _ S3.r4)) rfl ⟨?_, ?_⟩
        · exact congrArg (fun x => Ending.returned (.tuple #[.agg (rhA hh), .bool x])) (by rw [HB.out, hk]; simp)
        · exact Below.setRow S3.bl.drew (Nat.le_refl _) _
      case true =>
        cases b2
        case false =>
          refine wp_region_held_drew (S := fun W' => RdC W' (w.heap.size + 1) hh) (by kernel_rfl) (RdC.mk S3.r6) (fun hHeld => ?_)
          refine tk 0 ?v31 ?y31 ?r31
          case y31 => (intro W' hW; have hb6 : blk W' (w.heap.size + 1) = _ := hW.r6; go_simp; try with_reducible rfl)
          refine nz ?_
          refine tp 1 _ ?r32
          refine nz ?_
          refine tp 2 _ ?r33
          refine nz ?_
          refine tp 3 _ ?r34
          refine nz ?_
          refine tp 4 _ ?r35
          refine nz ?_
          refine tp 5 _ ?r36
          refine nz ?_
          refine tp 6 _ ?r37
          refine nz ?_
          refine tp 7 _ ?r38
          refine nz ?_
          refine wpAnyH_take (i := 8) (v := undef) rfl (by kernel_rfl) (by kernel_rfl) (by kernel_rfl) (fun _ _ _ h => h) (Or.inr ⟨by rfl, rfl⟩) (by assumption) ?r39
          refine nz ?_
          refine tp 9 _ ?r40
          refine nz ?_
          refine tp 10 _ ?r41
          refine nz ?_
          refine wpAnyH_take (i := 11) (v := undef) rfl (by kernel_rfl) (by kernel_rfl) (by kernel_rfl) (fun _ _ _ h => h) (Or.inr ⟨by rfl, rfl⟩) (by assumption) ?r42
          refine nz ?_
          refine wpAnyH_take (i := 12) (v := undef) rfl (by kernel_rfl) (by kernel_rfl) (by kernel_rfl) (fun _ _ _ h => h) (Or.inr ⟨by rfl, rfl⟩) (by assumption) ?r43
          refine nz ?_
          refine wpAnyH_take (i := 13) (v := undef) rfl (by kernel_rfl) (by kernel_rfl) (by kernel_rfl) (fun _ _ _ h => h) (Or.inr ⟨by rfl, rfl⟩) (by assumption) ?r44
          refine nz ?_
          refine wpAnyH_take (i := 14) (v := undef) rfl (by kernel_rfl) (by kernel_rfl) (by kernel_rfl) (fun _ _ _ h => h) (Or.inr ⟨by rfl, rfl⟩) (by assumption) ?r45
          refine nz ?_
          refine wpAnyH_take (i := 15) (v := undef) rfl (by kernel_rfl) (by kernel_rfl) (by kernel_rfl) (fun _ _ _ h => h) (Or.inr ⟨by rfl, rfl⟩) (by assumption) ?r46
          refine nz ?_
          refine wpAnyH_take (i := 16) (v := undef) rfl (by kernel_rfl) (by kernel_rfl) (by kernel_rfl) (fun _ _ _ h => h) (Or.inr ⟨by rfl, rfl⟩) (by assumption) ?r47
          refine nz ?_
          refine tp 17 _ ?r48
          refine nz ?_
          refine wpAnyH_ready (rs := [18]) (by kernel_rfl) (by simp) ?_
          refine AllReadyH.cons rfl (fun K hK => ?_) ?nil18
          case nil18 => exact AllReadyH.nil
          go_simp
          refine hK.out _ _ ⟨by rw [setRow_other _ _ _ _ (by omega)]; exact S3.r6⟩ (fun hHeld => ?_)
          clear hK K
          refine tp 19 _ ?r49
          refine nz ?_
          refine wpAnyH_done (by kernel_rfl) ?_ _
          go_wp2
          refine bodyPost_ret (res173 Tryz.results100 _ _ w.heap.size (rhA hh) _ rfl rfl rfl (setRow_heap w3.drew _ _ _ 173 _ S3.r4)) rfl ⟨?_, ?_⟩
          · exact congrArg (fun x => Ending.returned (.tuple #[.agg (rhA hh), .bool x])) (by rw [HB.out, hk]; simp)
          · exact Below.setRow S3.bl.drew (Nat.le_refl _) _
        case true =>
          refine wp_region_held_drew (S := fun W' => RdC W' (w.heap.size + 1) hh) (by kernel_rfl) (RdC.mk S3.r6) (fun hHeld => ?_)
          refine tk 0 ?v50 ?y50 ?r50
          case y50 => (intro W' hW; have hb6 : blk W' (w.heap.size + 1) = _ := hW.r6; go_simp; try with_reducible rfl)
          refine nz ?_
          refine tp 1 _ ?r51
          refine nz ?_
          refine tp 2 _ ?r52
          refine nz ?_
          refine tp 3 _ ?r53
          refine nz ?_
          refine tp 4 _ ?r54
          refine nz ?_
          refine tp 5 _ ?r55
          refine nz ?_
          refine tp 6 _ ?r56
          refine nz ?_
          refine tp 7 _ ?r57
          refine nz ?_
          refine tp 8 _ ?r58
          refine nz ?_
          refine tp 9 _ ?r59
          refine nz ?_
          refine tp 10 _ ?r60
          refine nz ?_
          refine wpAnyH_take (i := 11) (v := undef) rfl (by kernel_rfl) (by kernel_rfl) (by kernel_rfl) (fun _ _ _ h => h) (Or.inr ⟨by rfl, rfl⟩) (by assumption) ?r61
          refine nz ?_
          refine wpAnyH_take (i := 12) (v := undef) rfl (by kernel_rfl) (by kernel_rfl) (by kernel_rfl) (fun _ _ _ h => h) (Or.inr ⟨by rfl, rfl⟩) (by assumption) ?r62
          refine nz ?_
          refine wpAnyH_take (i := 13) (v := undef) rfl (by kernel_rfl) (by kernel_rfl) (by kernel_rfl) (fun _ _ _ h => h) (Or.inr ⟨by rfl, rfl⟩) (by assumption) ?r63
          refine nz ?_
          refine wpAnyH_take (i := 14) (v := undef) rfl (by kernel_rfl) (by kernel_rfl) (by kernel_rfl) (fun _ _ _ h => h) (Or.inr ⟨by rfl, rfl⟩) (by assumption) ?r64
          refine nz ?_
          refine wpAnyH_take (i := 15) (v := undef) rfl (by kernel_rfl) (by kernel_rfl) (by kernel_rfl) (fun _ _ _ h => h) (Or.inr ⟨by rfl, rfl⟩) (by assumption) ?r65
          refine nz ?_
          refine wpAnyH_take (i := 16) (v := undef) rfl (by kernel_rfl) (by kernel_rfl) (by kernel_rfl) (fun _ _ _ h => h) (Or.inr ⟨by rfl, rfl⟩) (by assumption) ?r66
          refine nz ?_
          refine tp 17 _ ?r67
          refine nz ?_
          refine wpAnyH_ready (rs := [18]) (by kernel_rfl) (by simp) ?_
          refine AllReadyH.cons rfl (fun K hK => ?_) ?nil18
          case nil18 => exact AllReadyH.nil
          go_simp
          refine hK.out _ _ ⟨by rw [setRow_other _ _ _ _ (by omega)]; exact S3.r6⟩ (fun hHeld => ?_)
          clear hK K
          refine tp 19 _ ?r68
          refine nz ?_
          refine wpAnyH_done (by kernel_rfl) ?_ _
          go_wp2
          refine bodyPost_ret (res173 Tryz.results100 _ _ w.heap.size (rhA hh) _ rfl rfl rfl (setRow_heap w3.drew _ _ _ 173 _ S3.r4)) rfl ⟨?_, ?_⟩
          · exact congrArg (fun x => Ending.returned (.tuple #[.agg (rhA hh), .bool x])) (by rw [HB.out, hk]; simp)
          · exact Below.setRow S3.bl.drew (Nat.le_refl _) _
    case true =>
      rw [hr] at d7
      by_cases ha : 1 ≤ (hh.alg : Int)
      · by_cases h3 : (hh.alg : Int) ≤ 3
        · have hk0 : (if hh.ret = true then decide (1 ≤ hh.alg ∧ hh.alg ≤ 3) else false && decide (0 < hh.alg)) = true := by rw [if_pos hr, decide_eq_true_eq]; omega
          have HK : Hid _ := hk0
          clear hr hk0
          go_wp2_with fail
          have hk := HK.out
          clear d0 d1 d2 d3 d4 d5 d6 d7 d8 d9 d10
          generalize w2.drew = w3 at *
          have hb4 : blk w3 w.heap.size = some (.cells zrhA 173 (0, 0)) := S3.r4
          have hb2 := HB2.out
          clear HB2
          cases b1
          case false =>
            refine wp_region_held_drew (S := fun W' => RdC W' (w.heap.size + 1) hh) (by kernel_rfl) (RdC.mk S3.r6) (fun hHeld => ?_)
            refine tk 0 ?v69 ?y69 ?r69
            case y69 => (intro W' hW; have hb6 : blk W' (w.heap.size + 1) = _ := hW.r6; go_simp; try with_reducible rfl)
            refine nz ?_
            refine tp 1 _ ?r70
            refine nz ?_
            refine tp 2 _ ?r71
            refine nz ?_
            refine wpAnyH_take (i := 3) (v := undef) rfl (by kernel_rfl) (by kernel_rfl) (by kernel_rfl) (fun _ _ _ h => h) (Or.inr ⟨by rfl, rfl⟩) (by assumption) ?r72
            refine nz ?_
            refine wpAnyH_take (i := 4) (v := undef) rfl (by kernel_rfl) (by kernel_rfl) (by kernel_rfl) (fun _ _ _ h => h) (Or.inr ⟨by rfl, rfl⟩) (by assumption) ?r73
            refine nz ?_
            refine wpAnyH_take (i := 5) (v := undef) rfl (by kernel_rfl) (by kernel_rfl) (by kernel_rfl) (fun _ _ _ h => h) (Or.inr ⟨by rfl, rfl⟩) (by assumption) ?r74
            refine nz ?_
            refine tp 6 _ ?r75
            refine nz ?_
            refine tp 7 _ ?r76
            refine nz ?_
            refine wpAnyH_take (i := 8) (v := undef) rfl (by kernel_rfl) (by kernel_rfl) (by kernel_rfl) (fun _ _ _ h => h) (Or.inr ⟨by rfl, rfl⟩) (by assumption) ?r77
            refine nz ?_
            refine tp 9 _ ?r78
            refine nz ?_
            refine tp 10 _ ?r79
            refine nz ?_
            refine wpAnyH_take (i := 11) (v := undef) rfl (by kernel_rfl) (by kernel_rfl) (by kernel_rfl) (fun _ _ _ h => h) (Or.inr ⟨by rfl, rfl⟩) (by assumption) ?r80
            refine nz ?_
            refine wpAnyH_take (i := 12) (v := undef) rfl (by kernel_rfl) (by kernel_rfl) (by kernel_rfl) (fun _ _ _ h => h) (Or.inr ⟨by rfl, rfl⟩) (by assumption) ?r81
            refine nz ?_
            refine wpAnyH_take (i := 13) (v := undef) rfl (by kernel_rfl) (by kernel_rfl) (by kernel_rfl) (fun _ _ _ h => h) (Or.inr ⟨by rfl, rfl⟩) (by assumption) ?r82
            refine nz ?_
            refine wpAnyH_take (i := 14) (v := undef) rfl (by kernel_rfl) (by kernel_rfl) (by kernel_rfl) (fun _ _ _ h => h) (Or.inr ⟨by rfl, rfl⟩) (by assumption) ?r83
            refine nz ?_
            refine wpAnyH_take (i := 15) (v := undef) rfl (by kernel_rfl) (by kernel_rfl) (by kernel_rfl) (fun _ _ _ h => h) (Or.inr ⟨by rfl, rfl⟩) (by assumption) ?r84
            refine nz ?_
            refine wpAnyH_take (i := 16) (v := undef) rfl (by kernel_rfl) (by kernel_rfl) (by kernel_rfl) (fun _ _ _ h => h) (Or.inr ⟨by rfl, rfl⟩) (by assumption) ?r85
            refine nz ?_
            refine tp 17 _ ?r86
            refine nz ?_
            refine wpAnyH_ready (rs := [18]) (by kernel_rfl) (by simp) ?_
            refine AllReadyH.cons rfl (fun K hK => ?_) ?nil18
            case nil18 => exact AllReadyH.nil
            go_simp
            refine hK.out _ _ ⟨by rw [setRow_other _ _ _ _ (by omega)]; exact S3.r6⟩ (fun hHeld => ?_)
            clear hK K
            refine tp 19 _ ?r87
            refine nz ?_
            refine wpAnyH_done (by kernel_rfl) ?_ _
            go_wp2
            refine bodyPost_ret (res173 Tryz.results100 _ _ w.heap.size (rhA hh) _ rfl rfl rfl (setRow_heap w3.drew _ _ _ 173 _ S3.r4)) rfl ⟨?_, ?_⟩
            · exact congrArg (fun x => Ending.returned (.tuple #[.agg (rhA hh), .bool x])) (by rw [HB.out, hk]; simp)
            · exact Below.setRow S3.bl.drew (Nat.le_refl _) _
          case true =>
            cases b2
            case false =>
              refine wp_region_held_drew (S := fun W' => RdC W' (w.heap.size + 1) hh) (by kernel_rfl) (RdC.mk S3.r6) (fun hHeld => ?_)
              refine tk 0 ?v88 ?y88 ?r88
              case y88 => (intro W' hW; have hb6 : blk W' (w.heap.size + 1) = _ := hW.r6; go_simp; try with_reducible rfl)
              refine nz ?_
              refine tp 1 _ ?r89
              refine nz ?_
              refine tp 2 _ ?r90
              refine nz ?_
              refine tp 3 _ ?r91
              refine nz ?_
              refine tp 4 _ ?r92
              refine nz ?_
              refine tp 5 _ ?r93
              refine nz ?_
              refine tp 6 _ ?r94
              refine nz ?_
              refine tp 7 _ ?r95
              refine nz ?_
              refine wpAnyH_take (i := 8) (v := undef) rfl (by kernel_rfl) (by kernel_rfl) (by kernel_rfl) (fun _ _ _ h => h) (Or.inr ⟨by rfl, rfl⟩) (by assumption) ?r96
              refine nz ?_
              refine tp 9 _ ?r97
              refine nz ?_
              refine tp 10 _ ?r98
              refine nz ?_
              refine wpAnyH_take (i := 11) (v := undef) rfl (by kernel_rfl) (by kernel_rfl) (by kernel_rfl) (fun _ _ _ h => h) (Or.inr ⟨by rfl, rfl⟩) (by assumption) ?r99
              refine nz ?_
              refine wpAnyH_take (i := 12) (v := undef) rfl (by kernel_rfl) (by kernel_rfl) (by kernel_rfl) (fun _ _ _ h => h) (Or.inr ⟨by rfl, rfl⟩) (by assumption) ?r100
              refine nz ?_
              refine wpAnyH_take (i := 13) (v := undef) rfl (by kernel_rfl) (by kernel_rfl) (by kernel_rfl) (fun _ _ _ h => h) (Or.inr ⟨by rfl, rfl⟩) (by assumption) ?r101
              refine nz ?_
              refine wpAnyH_take (i := 14) (v := undef) rfl (by kernel_rfl) (by kernel_rfl) (by kernel_rfl) (fun _ _ _ h => h) (Or.inr ⟨by rfl, rfl⟩) (by assumption) ?r102
              refine nz ?_
              refine wpAnyH_take (i := 15) (v := undef) rfl (by kernel_rfl) (by kernel_rfl) (by kernel_rfl) (fun _ _ _ h => h) (Or.inr ⟨by rfl, rfl⟩) (by assumption) ?r103
              refine nz ?_
              refine wpAnyH_take (i := 16) (v := undef) rfl (by kernel_rfl) (by kernel_rfl) (by kernel_rfl) (fun _ _ _ h => h) (Or.inr ⟨by rfl, rfl⟩) (by assumption) ?r104
              refine nz ?_
              refine tp 17 _ ?r105
              refine nz ?_
              refine wpAnyH_ready (rs := [18]) (by kernel_rfl) (by simp) ?_
              refine AllReadyH.cons rfl (fun K hK => ?_) ?nil18
              case nil18 => exact AllReadyH.nil
              go_simp
              refine hK.out _ _ ⟨by rw [setRow_other _ _ _ _ (by omega)]; exact S3.r6⟩ (fun hHeld => ?_)
              clear hK K
              refine tp 19 _ ?r106
              refine nz ?_
              refine wpAnyH_done (by kernel_rfl) ?_ _
              go_wp2
              refine bodyPost_ret (res173 Tryz.results100 _ _ w.heap.size (rhA hh) _ rfl rfl rfl (setRow_heap w3.drew _ _ _ 173 _ S3.r4)) rfl ⟨?_, ?_⟩
              · exact congrArg (fun x => Ending.returned (.tuple #[.agg (rhA hh), .bool x])) (by rw [HB.out, hk]; simp)
              · exact Below.setRow S3.bl.drew (Nat.le_refl _) _
            case true =>
              refine wp_region_held_drew (S := fun W' => RdC W' (w.heap.size + 1) hh) (by kernel_rfl) (RdC.mk S3.r6) (fun hHeld => ?_)
              refine tk 0 ?v107 ?y107 ?r107
              case y107 => (intro W' hW; have hb6 : blk W' (w.heap.size + 1) = _ := hW.r6; go_simp; try with_reducible rfl)
              refine nz ?_
              refine tp 1 _ ?r108
              refine nz ?_
              refine tp 2 _ ?r109
              refine nz ?_
              refine tp 3 _ ?r110
              refine nz ?_
              refine tp 4 _ ?r111
              refine nz ?_
              refine tp 5 _ ?r112
              refine nz ?_
              refine tp 6 _ ?r113
              refine nz ?_
              refine tp 7 _ ?r114
              refine nz ?_
              refine tp 8 _ ?r115
              refine nz ?_
              refine tp 9 _ ?r116
              refine nz ?_
              refine tp 10 _ ?r117
              refine nz ?_
              refine tp 11 _ ?r118
              refine nz ?_
              refine tk 12 ?v119 ?y119 ?r119
              case y119 => (intro W' hW; obtain ⟨d0, d1, d2, d3, d4, d5, d6, d7, d8, d9, d10⟩ := hW.cs; go_simp; try with_reducible rfl)
              refine nz ?_
              refine tp 13 _ ?r120
              refine nz ?_
              refine tp 14 _ ?r121
              refine nz ?_
              refine tk 15 ?v122 ?y122 ?r122
              case y122 => (intro W' hW; obtain ⟨d0, d1, d2, d3, d4, d5, d6, d7, d8, d9, d10⟩ := hW.cs; go_simp; try with_reducible rfl)
              refine nz ?_
              refine tp 16 _ ?r123
              refine nz ?_
              refine tp 17 _ ?r124
              refine nz ?_
              refine wpAnyH_ready (rs := [18]) (by kernel_rfl) (by simp) ?_
              refine AllReadyH.cons rfl (fun K hK => ?_) ?nil18
              case nil18 => exact AllReadyH.nil
              go_simp
              refine hK.out _ _ ⟨by rw [setRow_other _ _ _ _ (by omega)]; exact S3.r6⟩ (fun hHeld => ?_)
              clear hK K
              refine tp 19 _ ?r125
              refine nz ?_
              refine wpAnyH_done (by kernel_rfl) ?_ _
              go_wp2
              refine bodyPost_ret (res173 Tryz.results100 _ _ w.heap.size (rhA hh) _ rfl rfl rfl (setRow_heap w3.drew _ _ _ 173 _ S3.r4)) rfl ⟨?_, ?_⟩
              · exact congrArg (fun x => Ending.returned (.tuple #[.agg (rhA hh), .bool x])) (by rw [HB.out, hk]; simp)
              · exact Below.setRow S3.bl.drew (Nat.le_refl _) _
        · have hk0 : (if hh.ret = true then decide (1 ≤ hh.alg ∧ hh.alg ≤ 3) else false && decide (0 < hh.alg)) = false := by rw [if_pos hr, decide_eq_false_iff_not]; omega
          have HK : Hid _ := hk0
          clear hr hk0
          go_wp2_with fail
          have hk := HK.out
          clear d0 d1 d2 d3 d4 d5 d6 d7 d8 d9 d10
          generalize w2.drew = w3 at *
          have hb4 : blk w3 w.heap.size = some (.cells zrhA 173 (0, 0)) := S3.r4
          have hb2 := HB2.out
          clear HB2
          cases b1
          case false =>
            refine wp_region_held_drew (S := fun W' => RdC W' (w.heap.size + 1) hh) (by kernel_rfl) (RdC.mk S3.r6) (fun hHeld => ?_)
            refine tk 0 ?v126 ?y126 ?r126
            case y126 => (intro W' hW; have hb6 : blk W' (w.heap.size + 1) = _ := hW.r6; go_simp; try with_reducible rfl)
            refine nz ?_
            refine tp 1 _ ?r127
            refine nz ?_
            refine tp 2 _ ?r128
            refine nz ?_
            refine wpAnyH_take (i := 3) (v := undef) rfl (by kernel_rfl) (by kernel_rfl) (by kernel_rfl) (fun _ _ _ h => h) (Or.inr ⟨by rfl, rfl⟩) (by assumption) ?r129
            refine nz ?_
            refine wpAnyH_take (i := 4) (v := undef) rfl (by kernel_rfl) (by kernel_rfl) (by kernel_rfl) (fun _ _ _ h => h) (Or.inr ⟨by rfl, rfl⟩) (by assumption) ?r130
            refine nz ?_
            refine wpAnyH_take (i := 5) (v := undef) rfl (by kernel_rfl) (by kernel_rfl) (by kernel_rfl) (fun _ _ _ h => h) (Or.inr ⟨by rfl, rfl⟩) (by assumption) ?r131
            refine nz ?_
            refine tp 6 _ ?r132
            refine nz ?_
            refine tp 7 _ ?r133
            refine nz ?_
            refine wpAnyH_take (i := 8) (v := undef) rfl (by kernel_rfl) (by kernel_rfl) (by kernel_rfl) (fun _ _ _ h => h) (Or.inr ⟨by rfl, rfl⟩) (by assumption) ?r134
            refine nz ?_
            refine tp 9 _ ?r135
            refine nz ?_
            refine tp 10 _ ?r136
            refine nz ?_
            refine wpAnyH_take (i := 11) (v := undef) rfl (by kernel_rfl) (by kernel_rfl) (by kernel_rfl) (fun _ _ _ h => h) (Or.inr ⟨by rfl, rfl⟩) (by assumption) ?r137
            refine nz ?_
            refine wpAnyH_take (i := 12) (v := undef) rfl (by kernel_rfl) (by kernel_rfl) (by kernel_rfl) (fun _ _ _ h => h) (Or.inr ⟨by rfl, rfl⟩) (by assumption) ?r138
            refine nz ?_
            refine wpAnyH_take (i := 13) (v := undef) rfl (by kernel_rfl) (by kernel_rfl) (by kernel_rfl) (fun _ _ _ h => h) (Or.inr ⟨by rfl, rfl⟩) (by assumption) ?r139
            refine nz ?_
            refine wpAnyH_take (i := 14) (v := undef) rfl (by kernel_rfl) (by kernel_rfl) (by kernel_rfl) (fun _ _ _ h => h) (Or.inr ⟨by rfl, rfl⟩) (by assumption) ?r140
            refine nz ?_
            refine wpAnyH_take (i := 15) (v := undef) rfl (by kernel_rfl) (by kernel_rfl) (by kernel_rfl) (fun _ _ _ h => h) (Or.inr ⟨by rfl, rfl⟩) (by assumption) ?r141
            refine nz ?_
            refine wpAnyH_take (i := 16) (v := undef) rfl (by kernel_rfl) (by kernel_rfl) (by kernel_rfl) (fun _ _ _ h => h) (Or.inr ⟨by rfl, rfl⟩) (by assumption) ?r142
            refine nz ?_
            refine tp 17 _ ?r143
            refine nz ?_
            refine wpAnyH_ready (rs := [18]) (by kernel_rfl) (by simp) ?_
            refine AllReadyH.cons rfl (fun K hK => ?_) ?nil18
            case nil18 => exact AllReadyH.nil
            go_simp
            refine hK.out _ _ ⟨by rw [setRow_other _ _ _ _ (by omega)]; exact S3.r6⟩ (fun hHeld => ?_)
            clear hK K
            refine tp 19 _ ?r144
            refine nz ?_
            refine wpAnyH_done (by kernel_rfl) ?_ _
            go_wp2
            refine bodyPost_ret (res173 Tryz.results100 _ _ w.heap.size (rhA hh) _ rfl rfl rfl (setRow_heap w3.drew _ _ _ 173 _ S3.r4)) rfl ⟨?_, ?_⟩
            · exact congrArg (fun x => Ending.returned (.tuple #[.agg (rhA hh), .bool x])) (by rw [HB.out, hk]; simp)
            · exact Below.setRow S3.bl.drew (Nat.le_refl _) _
          case true =>
            cases b2
            case false =>
              refine wp_region_held_drew (S := fun W' => RdC W' (w.heap.size + 1) hh) (by kernel_rfl) (RdC.mk S3.r6) (fun hHeld => ?_)
              refine tk 0 ?v145 ?y145 ?r145
              case y145 => (intro W' hW; have hb6 : blk W' (w.heap.size + 1) = _ := hW.r6; go_simp; try with_reducible rfl)
              refine nz ?_
              refine tp 1 _ ?r146
              refine nz ?_
              refine tp 2 _ ?r147
              refine nz ?_
              refine tp 3 _ ?r148
              refine nz ?_
              refine tp 4 _ ?r149
              refine nz ?_
              refine tp 5 _ ?r150
              refine nz ?_
              refine tp 6 _ ?r151
              refine nz ?_
              refine tp 7 _ ?r152
              refine nz ?_
              refine wpAnyH_take (i := 8) (v := undef) rfl (by kernel_rfl) (by kernel_rfl) (by kernel_rfl) (fun _ _ _ h => h) (Or.inr ⟨by rfl, rfl⟩) (by assumption) ?r153
              refine nz ?_
              refine tp 9 _ ?r154
              refine nz ?_
              refine tp 10 _ ?r155
              refine nz ?_
              refine wpAnyH_take (i := 11) (v := undef) rfl (by kernel_rfl) (by kernel_rfl) (by kernel_rfl) (fun _ _ _ h => h) (Or.inr ⟨by rfl, rfl⟩) (by assumption) ?r156
              refine nz ?_
              refine wpAnyH_take (i := 12) (v := undef) rfl (by kernel_rfl) (by kernel_rfl) (by kernel_rfl) (fun _ _ _ h => h) (Or.inr ⟨by rfl, rfl⟩) (by assumption) ?r157
              refine nz ?_
              refine wpAnyH_take (i := 13) (v := undef) rfl (by kernel_rfl) (by kernel_rfl) (by kernel_rfl) (fun _ _ _ h => h) (Or.inr ⟨by rfl, rfl⟩) (by assumption) ?r158
              refine nz ?_
              refine wpAnyH_take (i := 14) (v := undef) rfl (by kernel_rfl) (by kernel_rfl) (by kernel_rfl) (fun _ _ _ h => h) (Or.inr ⟨by rfl, rfl⟩) (by assumption) ?r159
              refine nz ?_
              refine wpAnyH_take (i := 15) (v := undef) rfl (by kernel_rfl) (by kernel_rfl) (by kernel_rfl) (fun _ _ _ h => h) (Or.inr ⟨by rfl, rfl⟩) (by assumption) ?r160
              refine nz ?_
              refine wpAnyH_take (i := 16) (v := undef) rfl (by kernel_rfl) (by kernel_rfl) (by kernel_rfl) (fun _ _ _ h => h) (Or.inr ⟨by rfl, rfl⟩) (by assumption) ?r161
              refine nz ?_
              refine tp 17 _ ?r162
              refine nz ?_
              refine wpAnyH_ready (rs := [18]) (by kernel_rfl) (by simp) ?_
              refine AllReadyH.cons rfl (fun K hK => ?_) ?nil18
              case nil18 => exact AllReadyH.nil
              go_simp
              refine hK.out _ _ ⟨by rw [setRow_other _ _ _ _ (by omega)]; exact S3.r6⟩ (fun hHeld => ?_)
              clear hK K
              refine tp 19 _ ?r163
              refine nz ?_
              refine wpAnyH_done (by kernel_rfl) ?_ _
              go_wp2
              refine bodyPost_ret (res173 Tryz.results100 _ _ w.heap.size (rhA hh) _ rfl rfl rfl (setRow_heap w3.drew _ _ _ 173 _ S3.r4)) rfl ⟨?_, ?_⟩
              · exact congrArg (fun x => Ending.returned (.tuple #[.agg (rhA hh), .bool x])) (by rw [HB.out, hk]; simp)
              · exact Below.setRow S3.bl.drew (Nat.le_refl _) _
            case true =>
              refine wp_region_held_drew (S := fun W' => RdC W' (w.heap.size + 1) hh) (by kernel_rfl) (RdC.mk S3.r6) (fun hHeld => ?_)
              refine tk 0 ?v164 ?y164 ?r164
              case y164 => (intro W' hW; have hb6 : blk W' (w.heap.size + 1) = _ := hW.r6; go_simp; try with_reducible rfl)
              refine nz ?_
              refine tp 1 _ ?r165
              refine nz ?_
              refine tp 2 _ ?r166
              refine nz ?_
              refine tp 3 _ ?r167
              refine nz ?_
              refine tp 4 _ ?r168
              refine nz ?_
              refine tp 5 _ ?r169
              refine nz ?_
              refine tp 6 _ ?r170
              refine nz ?_
              refine tp 7 _ ?r171
              refine nz ?_
              refine tp 8 _ ?r172
              refine nz ?_
              refine tp 9 _ ?r173
              refine nz ?_
              refine tp 10 _ ?r174
              refine nz ?_
              refine wpAnyH_take (i := 11) (v := undef) rfl (by kernel_rfl) (by kernel_rfl) (by kernel_rfl) (fun _ _ _ h => h) (Or.inr ⟨by rfl, rfl⟩) (by assumption) ?r175
              refine nz ?_
              refine wpAnyH_take (i := 12) (v := undef) rfl (by kernel_rfl) (by kernel_rfl) (by kernel_rfl) (fun _ _ _ h => h) (Or.inr ⟨by rfl, rfl⟩) (by assumption) ?r176
              refine nz ?_
              refine wpAnyH_take (i := 13) (v := undef) rfl (by kernel_rfl) (by kernel_rfl) (by kernel_rfl) (fun _ _ _ h => h) (Or.inr ⟨by rfl, rfl⟩) (by assumption) ?r177
              refine nz ?_
              refine wpAnyH_take (i := 14) (v := undef) rfl (by kernel_rfl) (by kernel_rfl) (by kernel_rfl) (fun _ _ _ h => h) (Or.inr ⟨by rfl, rfl⟩) (by assumption) ?r178
              refine nz ?_
              refine wpAnyH_take (i := 15) (v := undef) rfl (by kernel_rfl) (by kernel_rfl) (by kernel_rfl) (fun _ _ _ h => h) (Or.inr ⟨by rfl, rfl⟩) (by assumption) ?r179
              refine nz ?_
              refine wpAnyH_take (i := 16) (v := undef) rfl (by kernel_rfl) (by kernel_rfl) (by kernel_rfl) (fun _ _ _ h => h) (Or.inr ⟨by rfl, rfl⟩) (by assumption) ?r180
              refine nz ?_
              refine tp 17 _ ?r181
              refine nz ?_
              refine wpAnyH_ready (rs := [18]) (by kernel_rfl) (by simp) ?_
              refine AllReadyH.cons rfl (fun K hK => ?_) ?nil18
              case nil18 => exact AllReadyH.nil
              go_simp
              refine hK.out _ _ ⟨by rw [setRow_other _ _ _ _ (by omega)]; exact S3.r6⟩ (fun hHeld => ?_)
              clear hK K
              refine tp 19 _ ?r182
              refine nz ?_
              refine wpAnyH_done (by kernel_rfl) ?_ _
              go_wp2
              refine bodyPost_ret (res173 Tryz.results100 _ _ w.heap.size (rhA hh) _ rfl rfl rfl (setRow_heap w3.drew _ _ _ 173 _ S3.r4)) rfl ⟨?_, ?_⟩
              · exact congrArg (fun x => Ending.returned (.tuple #[.agg (rhA hh), .bool x])) (by rw [HB.out, hk]; simp)
              · exact Below.setRow S3.bl.drew (Nat.le_refl _) _
      · have hk0 : (if hh.ret = true then decide (1 ≤ hh.alg ∧ hh.alg ≤ 3) else false && decide (0 < hh.alg)) = false := by rw [if_pos hr, decide_eq_false_iff_not]; omega
        have HK : Hid _ := hk0
        clear hr hk0
        go_wp2_with fail
        have hk := HK.out
        clear d0 d1 d2 d3 d4 d5 d6 d7 d8 d9 d10
        generalize w2.drew = w3 at *
        have hb4 : blk w3 w.heap.size = some (.cells zrhA 173 (0, 0)) := S3.r4
        have hb2 := HB2.out
        clear HB2
        cases b1
        case false =>
          refine wp_region_held_drew (S := fun W' => RdC W' (w.heap.size + 1) hh) (by kernel_rfl) (RdC.mk S3.r6) (fun hHeld => ?_)
          refine tk 0 ?v183 ?y183 ?r183
          case y183 => (intro W' hW; have hb6 : blk W' (w.heap.size + 1) = _ := hW.r6; go_simp; try with_reducible rfl)
          refine nz ?_
          refine tp 1 _ ?r184
          refine nz ?_
          refine tp 2 _ ?r185
          refine nz ?_
          refine wpAnyH_take (i := 3) (v := undef) rfl (by kernel_rfl) (by kernel_rfl) (by kernel_rfl) (fun _ _ _ h => h) (Or.inr ⟨by rfl, rfl⟩) (by assumption) ?r186
          refine nz ?_
          refine wpAnyH_take (i := 4) (v := undef) rfl (by kernel_rfl) (by kernel_rfl) (by kernel_rfl) (fun _ _ _ h => h) (Or.inr ⟨by rfl, rfl⟩) (by assumption) ?r187
          refine nz ?_
          refine wpAnyH_take (i := 5) (v := undef) rfl (by kernel_rfl) (by kernel_rfl) (by kernel_rfl) (fun _ _ _ h => h) (Or.inr ⟨by rfl, rfl⟩) (by assumption) ?r188
          refine nz ?_
          refine tp 6 _ ?r189
          refine nz ?_
          refine tp 7 _ ?r190
          refine nz ?_
          refine wpAnyH_take (i := 8) (v := undef) rfl (by kernel_rfl) (by kernel_rfl) (by kernel_rfl) (fun _ _ _ h => h) (Or.inr ⟨by rfl, rfl⟩) (by assumption) ?r191
          refine nz ?_
          refine tp 9 _ ?r192
          refine nz ?_
          refine tp 10 _ ?r193
          refine nz ?_
          refine wpAnyH_take (i := 11) (v := undef) rfl (by kernel_rfl) (by kernel_rfl) (by kernel_rfl) (fun _ _ _ h => h) (Or.inr ⟨by rfl, rfl⟩) (by assumption) ?r194
          refine nz ?_
          refine wpAnyH_take (i := 12) (v := undef) rfl (by kernel_rfl) (by kernel_rfl) (by kernel_rfl) (fun _ _ _ h => h) (Or.inr ⟨by rfl, rfl⟩) (by assumption) ?r195
          refine nz ?_
          refine wpAnyH_take (i := 13) (v := undef) rfl (by kernel_rfl) (by kernel_rfl) (by kernel_rfl) (fun _ _ _ h => h) (Or.inr ⟨by rfl, rfl⟩) (by assumption) ?r196
          refine nz ?_
          refine wpAnyH_take (i := 14) (v := undef) rfl (by kernel_rfl) (by kernel_rfl) (by kernel_rfl) (fun _ _ _ h => h) (Or.inr ⟨by rfl, rfl⟩) (by assumption) ?r197
          refine nz ?_
          refine wpAnyH_take (i := 15) (v := undef) rfl (by kernel_rfl) (by kernel_rfl) (by kernel_rfl) (fun _ _ _ h => h) (Or.inr ⟨by rfl, rfl⟩) (by assumption) ?r198
          refine nz ?_
          refine wpAnyH_take (i := 16) (v := undef) rfl (by kernel_rfl) (by kernel_rfl) (by kernel_rfl) (fun _ _ _ h => h) (Or.inr ⟨by rfl, rfl⟩) (by assumption) ?r199
          refine nz ?_
          refine tp 17 _ ?r200
          refine nz ?_
          refine wpAnyH_ready (rs := [18]) (by kernel_rfl) (by simp) ?_
          refine AllReadyH.cons rfl (fun K hK => ?_) ?nil18
          case nil18 => exact AllReadyH.nil
          go_simp
          refine hK.out _ _ ⟨by rw [setRow_other _ _ _ _ (by omega)]; exact S3.r6⟩ (fun hHeld => ?_)
          clear hK K
          refine tp 19 _ ?r201
          refine nz ?_
          refine wpAnyH_done (by kernel_rfl) ?_ _
          go_wp2
          refine bodyPost_ret (res173 Tryz.results100 _ _ w.heap.size (rhA hh) _ rfl rfl rfl (setRow_heap w3.drew _ _ _ 173 _ S3.r4)) rfl ⟨?_, ?_⟩
          · exact congrArg (fun x => Ending.returned (.tuple #[.agg (rhA hh), .bool x])) (by rw [HB.out, hk]; simp)
          · exact Below.setRow S3.bl.drew (Nat.le_refl _) _
        case true =>
          cases b2
          case false =>
            refine wp_region_held_drew (S := fun W' => RdC W' (w.heap.size + 1) hh) (by kernel_rfl) (RdC.mk S3.r6) (fun hHeld => ?_)
            refine tk 0 ?v202 ?y202 ?r202
            case y202 => (intro W' hW; have hb6 : blk W' (w.heap.size + 1) = _ := hW.r6; go_simp; try with_reducible rfl)
            refine nz ?_
            refine tp 1 _ ?r203
            refine nz ?_
            refine tp 2 _ ?r204
            refine nz ?_
            refine tp 3 _ ?r205
            refine nz ?_
            refine tp 4 _ ?r206
            refine nz ?_
            refine tp 5 _ ?r207
            refine nz ?_
            refine tp 6 _ ?r208
            refine nz ?_
            refine tp 7 _ ?r209
            refine nz ?_
            refine wpAnyH_take (i := 8) (v := undef) rfl (by kernel_rfl) (by kernel_rfl) (by kernel_rfl) (fun _ _ _ h => h) (Or.inr ⟨by rfl, rfl⟩) (by assumption) ?r210
            refine nz ?_
            refine tp 9 _ ?r211
            refine nz ?_
            refine tp 10 _ ?r212
            refine nz ?_
            refine wpAnyH_take (i := 11) (v := undef) rfl (by kernel_rfl) (by kernel_rfl) (by kernel_rfl) (fun _ _ _ h => h) (Or.inr ⟨by rfl, rfl⟩) (by assumption) ?r213
            refine nz ?_
            refine wpAnyH_take (i := 12) (v := undef) rfl (by kernel_rfl) (by kernel_rfl) (by kernel_rfl) (fun _ _ _ h => h) (Or.inr ⟨by rfl, rfl⟩) (by assumption) ?r214
            refine nz ?_
            refine wpAnyH_take (i := 13) (v := undef) rfl (by kernel_rfl) (by kernel_rfl) (by kernel_rfl) (fun _ _ _ h => h) (Or.inr ⟨by rfl, rfl⟩) (by assumption) ?r215
            refine nz ?_
            refine wpAnyH_take (i := 14) (v := undef) rfl (by kernel_rfl) (by kernel_rfl) (by kernel_rfl) (fun _ _ _ h => h) (Or.inr ⟨by rfl, rfl⟩) (by assumption) ?r216
            refine nz ?_
            refine wpAnyH_take (i := 15) (v := undef) rfl (by kernel_rfl) (by kernel_rfl) (by kernel_rfl) (fun _ _ _ h => h) (Or.inr ⟨by rfl, rfl⟩) (by assumption) ?r217
            refine nz ?_
            refine wpAnyH_take (i := 16) (v := undef) rfl (by kernel_rfl) (by kernel_rfl) (by kernel_rfl) (fun _ _ _ h => h) (Or.inr ⟨by rfl, rfl⟩) (by assumption) ?r218
            refine nz ?_
            refine tp 17 _ ?r219
            refine nz ?_
            refine wpAnyH_ready (rs := [18]) (by kernel_rfl) (by simp) ?_
            refine AllReadyH.cons rfl (fun K hK => ?_) ?nil18
            case nil18 => exact AllReadyH.nil
            go_simp
            refine hK.out _ _ ⟨by rw [setRow_other _ _ _ _ (by omega)]; exact S3.r6⟩ (fun hHeld => ?_)
            clear hK K
            refine tp 19 _ ?r220
            refine nz ?_
            refine wpAnyH_done (by kernel_rfl) ?_ _
            go_wp2
            refine bodyPost_ret (res173 Tryz.results100 _ _ w.heap.size (rhA hh) _ rfl rfl rfl (setRow_heap w3.drew _ _ _ 173 _ S3.r4)) rfl ⟨?_, ?_⟩
            · exact congrArg (fun x => Ending.returned (.tuple #[.agg (rhA hh), .bool x])) (by rw [HB.out, hk]; simp)
            · exact Below.setRow S3.bl.drew (Nat.le_refl _) _
          case true =>
            refine wp_region_held_drew (S := fun W' => RdC W' (w.heap.size + 1) hh) (by kernel_rfl) (RdC.mk S3.r6) (fun hHeld => ?_)
            refine tk 0 ?v221 ?y221 ?r221
            case y221 => (intro W' hW; have hb6 : blk W' (w.heap.size + 1) = _ := hW.r6; go_simp; try with_reducible rfl)
            refine nz ?_
            refine tp 1 _ ?r222
            refine nz ?_
            refine tp 2 _ ?r223
            refine nz ?_
            refine tp 3 _ ?r224
            refine nz ?_
            refine tp 4 _ ?r225
            refine nz ?_
            refine tp 5 _ ?r226
            refine nz ?_
            refine tp 6 _ ?r227
            refine nz ?_
            refine tp 7 _ ?r228
            refine nz ?_
            refine tp 8 _ ?r229
            refine nz ?_
            refine tp 9 _ ?r230
            refine nz ?_
            refine tp 10 _ ?r231
            refine nz ?_
            refine wpAnyH_take (i := 11) (v := undef) rfl (by kernel_rfl) (by kernel_rfl) (by kernel_rfl) (fun _ _ _ h => h) (Or.inr ⟨by rfl, rfl⟩) (by assumption) ?r232
            refine nz ?_
            refine wpAnyH_take (i := 12) (v := undef) rfl (by kernel_rfl) (by kernel_rfl) (by kernel_rfl) (fun _ _ _ h => h) (Or.inr ⟨by rfl, rfl⟩) (by assumption) ?r233
            refine nz ?_
            refine wpAnyH_take (i := 13) (v := undef) rfl (by kernel_rfl) (by kernel_rfl) (by kernel_rfl) (fun _ _ _ h => h) (Or.inr ⟨by rfl, rfl⟩) (by assumption) ?r234
            refine nz ?_
            refine wpAnyH_take (i := 14) (v := undef) rfl (by kernel_rfl) (by kernel_rfl) (by kernel_rfl) (fun _ _ _ h => h) (Or.inr ⟨by rfl, rfl⟩) (by assumption) ?r235
            refine nz ?_
            refine wpAnyH_take (i := 15) (v := undef) rfl (by kernel_rfl) (by kernel_rfl) (by kernel_rfl) (fun _ _ _ h => h) (Or.inr ⟨by rfl, rfl⟩) (by assumption) ?r236
            refine nz ?_
            refine wpAnyH_take (i := 16) (v := undef) rfl (by kernel_rfl) (by kernel_rfl) (by kernel_rfl) (fun _ _ _ h => h) (Or.inr ⟨by rfl, rfl⟩) (by assumption) ?r237
            refine nz ?_
            refine tp 17 _ ?r238
            refine nz ?_
            refine wpAnyH_ready (rs := [18]) (by kernel_rfl) (by simp) ?_
            refine AllReadyH.cons rfl (fun K hK => ?_) ?nil18
            case nil18 => exact AllReadyH.nil
            go_simp
            refine hK.out _ _ ⟨by rw [setRow_other _ _ _ _ (by omega)]; exact S3.r6⟩ (fun hHeld => ?_)
            clear hK K
            refine tp 19 _ ?r239
            refine nz ?_
            refine wpAnyH_done (by kernel_rfl) ?_ _
            go_wp2
            refine bodyPost_ret (res173 Tryz.results100 _ _ w.heap.size (rhA hh) _ rfl rfl rfl (setRow_heap w3.drew _ _ _ 173 _ S3.r4)) rfl ⟨?_, ?_⟩
            · exact congrArg (fun x => Ending.returned (.tuple #[.agg (rhA hh), .bool x])) (by rw [HB.out, hk]; simp)
            · exact Below.setRow S3.bl.drew (Nat.le_refl _) _
  case true =>
    by_cases h0 : 0 < (hh.alg : Int)
    · have h0n : 0 < hh.alg := by omega
      have h0d : decide (0 < hh.alg) = true := by simpa using h0n
      refine wp_region_held_drew (S := fun W' => RdS w W' hh) (by kernel_rfl) S2.drew (fun hHeld => ?_)
      refine tp 0 _ ?r240
      refine nz ?_
      refine tk 1 ?v241 ?y241 ?r241
      case y241 => (intro W' hW; obtain ⟨d0, d1, d2, d3, d4, d5, d6, d7, d8, d9, d10⟩ := hW.cs; go_simp; try with_reducible rfl)
      refine nz ?_
      refine tp 3 _ ?r242
      refine nz ?_
      refine tk 4 ?v243 ?y243 ?r243
      case y243 => (intro W' hW; obtain ⟨d0, d1, d2, d3, d4, d5, d6, d7, d8, d9, d10⟩ := hW.cs; go_simp; try with_reducible rfl)
      refine nz ?_
      refine wpAnyH_ready (rs := [2]) (by kernel_rfl) (by simp) ?_
      refine AllReadyH.cons rfl (fun K hK => ?_) ?nil2
      case nil2 => exact AllReadyH.nil
      go_simp
      refine (rAlg_any _ _).mono ?_
      rintro e wa ⟨rfl, hwa⟩
      subst hwa
      go_wp2_with fail
      refine hK.out _ _ hHeld (fun hHeld => ?_)
      clear hK K
      refine tp 5 _ ?r244
      refine nz ?_
      refine tp 6 _ ?r245
      refine nz ?_
      refine tp 7 _ ?r246
      refine nz ?_
      refine tk 8 ?v247 ?y247 ?r247
      case y247 => (intro W' hW; obtain ⟨d0, d1, d2, d3, d4, d5, d6, d7, d8, d9, d10⟩ := hW.cs; go_simp; try with_reducible rfl)
      refine nz ?_
      refine tp 9 _ ?r248
      refine nz ?_
      refine tp 10 _ ?r249
      refine nz ?_
      refine tp 11 _ ?r250
      refine nz ?_
      refine wpAnyH_done (by kernel_rfl) ?_ _
      have S3 := hHeld
      clear hHeld S2
      obtain ⟨d0, d1, d2, d3, d4, d5, d6, d7, d8, d9, d10⟩ := S3.cs
      cases hr : hh.ret
      case false =>
        rw [hr] at d7
        have hk : (if hh.ret = true then decide (1 ≤ hh.alg ∧ hh.alg ≤ 3) else true && decide (0 < hh.alg)) = true := by rw [if_neg (by rw [hr]; decide), Bool.true_and, decide_eq_true_eq]; omega
        have HK : Hid _ := hk
        clear hk hr
        go_wp2_with fail
        have hk := HK.out
        clear d0 d1 d2 d3 d4 d5 d6 d7 d8 d9 d10
        generalize w2.drew = w3 at *
        have hb4 : blk w3 w.heap.size = some (.cells zrhA 173 (0, 0)) := S3.r4
        have hb2 := HB2.out
        clear HB2
        cases b1
        case false =>
          refine wp_region_held_drew (S := fun W' => RdC W' (w.heap.size + 1) hh) (by kernel_rfl) (RdC.mk S3.r6) (fun hHeld => ?_)
          refine tk 0 ?v251 ?y251 ?r251
          case y251 => (intro W' hW; have hb6 : blk W' (w.heap.size + 1) = _ := hW.r6; go_simp; try with_reducible rfl)
          refine nz ?_
          refine tp 1 _ ?r252
          refine nz ?_
          refine tp 2 _ ?r253
          refine nz ?_
          refine wpAnyH_take (i := 3) (v := undef) rfl (by kernel_rfl) (by kernel_rfl) (by kernel_rfl) (fun _ _ _ h => h) (Or.inr ⟨by rfl, rfl⟩) (by assumption) ?r254
          refine nz ?_
          refine wpAnyH_take (i := 4) (v := undef) rfl (by kernel_rfl) (by kernel_rfl) (by kernel_rfl) (fun _ _ _ h => h) (Or.inr ⟨by rfl, rfl⟩) (by assumption) ?r255
          refine nz ?_
          refine wpAnyH_take (i := 5) (v := undef) rfl (by kernel_rfl) (by kernel_rfl) (by kernel_rfl) (fun _ _ _ h => h) (Or.inr ⟨by rfl, rfl⟩) (by assumption) ?r256
          refine nz ?_
          refine tp 6 _ ?r257
          refine nz ?_
          refine tp 7 _ ?r258
          refine nz ?_
          refine wpAnyH_take (i := 8) (v := undef) rfl (by kernel_rfl) (by kernel_rfl) (by kernel_rfl) (fun _ _ _ h => h) (Or.inr ⟨by rfl, rfl⟩) (by assumption) ?r259
          refine nz ?_
          refine tp 9 _ ?r260
          refine nz ?_
          refine tp 10 _ ?r261
          refine nz ?_
          refine wpAnyH_take (i := 11) (v := undef) rfl (by kernel_rfl) (by kernel_rfl) (by kernel_rfl) (fun _ _ _ h => h) (Or.inr ⟨by rfl, rfl⟩) (by assumption) ?r262
          refine nz ?_
          refine wpAnyH_take (i := 12) (v := undef) rfl (by kernel_rfl) (by kernel_rfl) (by kernel_rfl) (fun _ _ _ h => h) (Or.inr ⟨by rfl, rfl⟩) (by assumption) ?r263
          refine nz ?_
          refine wpAnyH_take (i := 13) (v := undef) rfl (by kernel_rfl) (by kernel_rfl) (by kernel_rfl) (fun _ _ _ h => h) (Or.inr ⟨by rfl, rfl⟩) (by assumption) ?r264
          refine nz ?_
          refine wpAnyH_take (i := 14) (v := undef) rfl (by kernel_rfl) (by kernel_rfl) (by kernel_rfl) (fun _ _ _ h => h) (Or.inr ⟨by rfl, rfl⟩) (by assumption) ?r265
          refine nz ?_
          refine wpAnyH_take (i := 15) (v := undef) rfl (by kernel_rfl) (by kernel_rfl) (by kernel_rfl) (fun _ _ _ h => h) (Or.inr ⟨by rfl, rfl⟩) (by assumption) ?r266
          refine nz ?_
          refine wpAnyH_take (i := 16) (v := undef) rfl (by kernel_rfl) (by kernel_rfl) (by kernel_rfl) (fun _ _ _ h => h) (Or.inr ⟨by rfl, rfl⟩) (by assumption) ?r267
          refine nz ?_
          refine tp 17 _ ?r268
          refine nz ?_
          refine wpAnyH_ready (rs := [18]) (by kernel_rfl) (by simp) ?_
          refine AllReadyH.cons rfl (fun K hK => ?_) ?nil18
          case nil18 => exact AllReadyH.nil
          go_simp
          refine hK.out _ _ ⟨by rw [setRow_other _ _ _ _ (by omega)]; exact S3.r6⟩ (fun hHeld => ?_)
          clear hK K
          refine tp 19 _ ?r269
          refine nz ?_
          refine wpAnyH_done (by kernel_rfl) ?_ _
          go_wp2
          refine bodyPost_ret (res173 Tryz.results100 _ _ w.heap.size (rhA hh) _ rfl rfl rfl (setRow_heap w3.drew _ _ _ 173 _ S3.r4)) rfl ⟨?_, ?_⟩
          · exact congrArg (fun x => Ending.returned (.tuple #[.agg (rhA hh), .bool x])) (by rw [HB.out, hk]; simp)
          · exact Below.setRow S3.bl.drew (Nat.le_refl _) _
        case true =>
          cases b2
          case false =>
            refine wp_region_held_drew (S := fun W' => RdC W' (w.heap.size + 1) hh) (by kernel_rfl) (RdC.mk S3.r6) (fun hHeld => ?_)
            refine tk 0 ?v270 ?y270 ?r270
            case y270 => (intro W' hW; have hb6 : blk W' (w.heap.size + 1) = _ := hW.r6; go_simp; try with_reducible rfl)
            refine nz ?_
            refine tp 1 _ ?r271
            refine nz ?_
            refine tp 2 _ ?r272
            refine nz ?_
            refine tp 3 _ ?r273
            refine nz ?_
            refine tp 4 _ ?r274
            refine nz ?_
            refine tp 5 _ ?r275
            refine nz ?_
            refine tp 6 _ ?r276
            refine nz ?_
            refine tp 7 _ ?r277
            refine nz ?_
            refine wpAnyH_take (i := 8) (v := undef) rfl (by kernel_rfl) (by kernel_rfl) (by kernel_rfl) (fun _ _ _ h => h) (Or.inr ⟨by rfl, rfl⟩) (by assumption) ?r278
            refine nz ?_
            refine tp 9 _ ?r279
            refine nz ?_
            refine tp 10 _ ?r280
            refine nz ?_
            refine wpAnyH_take (i := 11) (v := undef) rfl (by kernel_rfl) (by kernel_rfl) (by kernel_rfl) (fun _ _ _ h => h) (Or.inr ⟨by rfl, rfl⟩) (by assumption) ?r281
            refine nz ?_
            refine wpAnyH_take (i := 12) (v := undef) rfl (by kernel_rfl) (by kernel_rfl) (by kernel_rfl) (fun _ _ _ h => h) (Or.inr ⟨by rfl, rfl⟩) (by assumption) ?r282
            refine nz ?_
            refine wpAnyH_take (i := 13) (v := undef) rfl (by kernel_rfl) (by kernel_rfl) (by kernel_rfl) (fun _ _ _ h => h) (Or.inr ⟨by rfl, rfl⟩) (by assumption) ?r283
            refine nz ?_
            refine wpAnyH_take (i := 14) (v := undef) rfl (by kernel_rfl) (by kernel_rfl) (by kernel_rfl) (fun _ _ _ h => h) (Or.inr ⟨by rfl, rfl⟩) (by assumption) ?r284
            refine nz ?_
            refine wpAnyH_take (i := 15) (v := undef) rfl (by kernel_rfl) (by kernel_rfl) (by kernel_rfl) (fun _ _ _ h => h) (Or.inr ⟨by rfl, rfl⟩) (by assumption) ?r285
            refine nz ?_
            refine wpAnyH_take (i := 16) (v := undef) rfl (by kernel_rfl) (by kernel_rfl) (by kernel_rfl) (fun _ _ _ h => h) (Or.inr ⟨by rfl, rfl⟩) (by assumption) ?r286
            refine nz ?_
            refine tp 17 _ ?r287
            refine nz ?_
            refine wpAnyH_ready (rs := [18]) (by kernel_rfl) (by simp) ?_
            refine AllReadyH.cons rfl (fun K hK => ?_) ?nil18
            case nil18 => exact AllReadyH.nil
            go_simp
            refine hK.out _ _ ⟨by rw [setRow_other _ _ _ _ (by omega)]; exact S3.r6⟩ (fun hHeld => ?_)
            clear hK K
            refine tp 19 _ ?r288
            refine nz ?_
            refine wpAnyH_done (by kernel_rfl) ?_ _
            go_wp2
            refine bodyPost_ret (res173 Tryz.results100 _ _ w.heap.size (rhA hh) _ rfl rfl rfl (setRow_heap w3.drew _ _ _ 173 _ S3.r4)) rfl ⟨?_, ?_⟩
            · exact congrArg (fun x => Ending.returned (.tuple #[.agg (rhA hh), .bool x])) (by rw [HB.out, hk]; simp)
            · exact Below.setRow S3.bl.drew (Nat.le_refl _) _
          case true =>
            refine wp_region_held_drew (S := fun W' => RdC W' (w.heap.size + 1) hh) (by kernel_rfl) (RdC.mk S3.r6) (fun hHeld => ?_)
            refine tk 0 ?v289 ?y289 ?r289
            case y289 => (intro W' hW; have hb6 : blk W' (w.heap.size + 1) = _ := hW.r6; go_simp; try with_reducible rfl)
            refine nz ?_
            refine tp 1 _ ?r290
            refine nz ?_
            refine tp 2 _ ?r291
            refine nz ?_
            refine tp 3 _ ?r292
            refine nz ?_
            refine tp 4 _ ?r293
            refine nz ?_
            refine tp 5 _ ?r294
            refine nz ?_
            refine tp 6 _ ?r295
            refine nz ?_
            refine tp 7 _ ?r296
            refine nz ?_
            refine tp 8 _ ?r297
            refine nz ?_
            refine tp 9 _ ?r298
            refine nz ?_
            refine tp 10 _ ?r299
            refine nz ?_
            refine tp 11 _ ?r300
            refine nz ?_
            refine tk 12 ?v301 ?y301 ?r301
            case y301 => (intro W' hW; obtain ⟨d0, d1, d2, d3, d4, d5, d6, d7, d8, d9, d10⟩ := hW.cs; go_simp; try with_reducible rfl)
            refine nz ?_
            refine tp 13 _ ?r302
            refine nz ?_
            refine tp 14 _ ?r303
            refine nz ?_
            refine tk 15 ?v304 ?y304 ?r304
            case y304 => (intro W' hW; obtain ⟨d0, d1, d2, d3, d4, d5, d6, d7, d8, d9, d10⟩ := hW.cs; go_simp; try with_reducible rfl)
            refine nz ?_
            refine tp 16 _ ?r305
            refine nz ?_
            refine tp 17 _ ?r306
            refine nz ?_
            refine wpAnyH_ready (rs := [18]) (by kernel_rfl) (by simp) ?_
            refine AllReadyH.cons rfl (fun K hK => ?_) ?nil18
            case nil18 => exact AllReadyH.nil
            go_simp
            refine hK.out _ _ ⟨by rw [setRow_other _ _ _ _ (by omega)]; exact S3.r6⟩ (fun hHeld => ?_)
            clear hK K
            refine tp 19 _ ?r307
            refine nz ?_
            refine wpAnyH_done (by kernel_rfl) ?_ _
            go_wp2
            refine bodyPost_ret (res173 Tryz.results100 _ _ w.heap.size (rhA hh) _ rfl rfl rfl (setRow_heap w3.drew _ _ _ 173 _ S3.r4)) rfl ⟨?_, ?_⟩
            · exact congrArg (fun x => Ending.returned (.tuple #[.agg (rhA hh), .bool x])) (by rw [HB.out, hk]; simp)
            · exact Below.setRow S3.bl.drew (Nat.le_refl _) _
      case true =>
        rw [hr] at d7
        by_cases ha : 1 ≤ (hh.alg : Int)
        · by_cases h3 : (hh.alg : Int) ≤ 3
          · have hk0 : (if hh.ret = true then decide (1 ≤ hh.alg ∧ hh.alg ≤ 3) else true && decide (0 < hh.alg)) = true := by rw [if_pos hr, decide_eq_true_eq]; omega
            have HK : Hid _ := hk0
            clear hr hk0
            go_wp2_with fail
            have hk := HK.out
            clear d0 d1 d2 d3 d4 d5 d6 d7 d8 d9 d10
            generalize w2.drew = w3 at *
            have hb4 : blk w3 w.heap.size = some (.cells zrhA 173 (0, 0)) := S3.r4
            have hb2 := HB2.out
            clear HB2
            cases b1
            case false =>
              refine wp_region_held_drew (S := fun W' => RdC W' (w.heap.size + 1) hh) (by kernel_rfl) (RdC.mk S3.r6) (fun hHeld => ?_)
              refine tk 0 ?v308 ?y308 ?r308
              case y308 => (intro W' hW; have hb6 : blk W' (w.heap.size + 1) = _ := hW.r6; go_simp; try with_reducible rfl)
              refine nz ?_
              refine tp 1 _ ?r309
              refine nz ?_
              refine tp 2 _ ?r310
              refine nz ?_
              refine wpAnyH_take (i := 3) (v := undef) rfl (by kernel_rfl) (by kernel_rfl) (by kernel_rfl) (fun _ _ _ h => h) (Or.inr ⟨by rfl, rfl⟩) (by assumption) ?r311
              refine nz ?_
              refine wpAnyH_take (i := 4) (v := undef) rfl (by kernel_rfl) (by kernel_rfl) (by kernel_rfl) (fun _ _ _ h => h) (Or.inr ⟨by rfl, rfl⟩) (by assumption) ?r312
              refine nz ?_
              refine wpAnyH_take (i := 5) (v := undef) rfl (by kernel_rfl) (by kernel_rfl) (by kernel_rfl) (fun _ _ _ h => h) (Or.inr ⟨by rfl, rfl⟩) (by assumption) ?r313
              refine nz ?_
              refine tp 6 _ ?r314
              refine nz ?_
              refine tp 7 _ ?r315
              refine nz ?_
              refine wpAnyH_take (i := 8) (v := undef) rfl (by kernel_rfl) (by kernel_rfl) (by kernel_rfl) (fun _ _ _ h => h) (Or.inr ⟨by rfl, rfl⟩) (by assumption) ?r316
              refine nz ?_
              refine tp 9 _ ?r317
              refine nz ?_
              refine tp 10 _ ?r318
              refine nz ?_
              refine wpAnyH_take (i := 11) (v := undef) rfl (by kernel_rfl) (by kernel_rfl) (by kernel_rfl) (fun _ _ _ h => h) (Or.inr ⟨by rfl, rfl⟩) (by assumption) ?r319
              refine nz ?_
              refine wpAnyH_take (i := 12) (v := undef) rfl (by kernel_rfl) (by kernel_rfl) (by kernel_rfl) (fun _ _ _ h => h) (Or.inr ⟨by rfl, rfl⟩) (by assumption) ?r320
              refine nz ?_
              refine wpAnyH_take (i := 13) (v := undef) rfl (by kernel_rfl) (by kernel_rfl) (by kernel_rfl) (fun _ _ _ h => h) (Or.inr ⟨by rfl, rfl⟩) (by assumption) ?r321
              refine nz ?_
              refine wpAnyH_take (i := 14) (v := undef) rfl (by kernel_rfl) (by kernel_rfl) (by kernel_rfl) (fun _ _ _ h => h) (Or.inr ⟨by rfl, rfl⟩) (by assumption) ?r322
              refine nz ?_
              refine wpAnyH_take (i := 15) (v := undef) rfl (by kernel_rfl) (by kernel_rfl) (by kernel_rfl) (fun _ _ _ h => h) (Or.inr ⟨by rfl, rfl⟩) (by assumption) ?r323
              refine nz ?_
              refine wpAnyH_take (i := 16) (v := undef) rfl (by kernel_rfl) (by kernel_rfl) (by kernel_rfl) (fun _ _ _ h => h) (Or.inr ⟨by rfl, rfl⟩) (by assumption) ?r324
              refine nz ?_
              refine tp 17 _ ?r325
              refine nz ?_
              refine wpAnyH_ready (rs := [18]) (by kernel_rfl) (by simp) ?_
              refine AllReadyH.cons rfl (fun K hK => ?_) ?nil18
              case nil18 => exact AllReadyH.nil
              go_simp
              refine hK.out _ _ ⟨by rw [setRow_other _ _ _ _ (by omega)]; exact S3.r6⟩ (fun hHeld => ?_)
              clear hK K
              refine tp 19 _ ?r326
              refine nz ?_
              refine wpAnyH_done (by kernel_rfl) ?_ _
              go_wp2
              refine bodyPost_ret (res173 Tryz.results100 _ _ w.heap.size (rhA hh) _ rfl rfl rfl (setRow_heap w3.drew _ _ _ 173 _ S3.r4)) rfl ⟨?_, ?_⟩
              · exact congrArg (fun x => Ending.returned (.tuple #[.agg (rhA hh), .bool x])) (by rw [HB.out, hk]; simp)
              · exact Below.setRow S3.bl.drew (Nat.le_refl _) _
            case true =>
              cases b2
              case false =>
                refine wp_region_held_drew (S := fun W' => RdC W' (w.heap.size + 1) hh) (by kernel_rfl) (RdC.mk S3.r6) (fun hHeld => ?_)
                refine tk 0 ?v327 ?y327 ?r327
                case y327 => (intro W' hW; have hb6 : blk W' (w.heap.size + 1) = _ := hW.r6; go_simp; try with_reducible rfl)
                refine nz ?_
                refine tp 1 _ ?r328
                refine nz ?_
                refine tp 2 _ ?r329
                refine nz ?_
                refine tp 3 _ ?r330
                refine nz ?_
                refine tp 4 _ ?r331
                refine nz ?_
                refine tp 5 _ ?r332
                refine nz ?_
                refine tp 6 _ ?r333
                refine nz ?_
                refine tp 7 _ ?r334
                refine nz ?_
                refine wpAnyH_take (i := 8) (v := undef) rfl (by kernel_rfl) (by kernel_rfl) (by kernel_rfl) (fun _ _ _ h => h) (Or.inr ⟨by rfl, rfl⟩) (by assumption) ?r335
                refine nz ?_
                refine tp 9 _ ?r336
                refine nz ?_
                refine tp 10 _ ?r337
                refine nz ?_
                refine wpAnyH_take (i := 11) (v := undef) rfl (by kernel_rfl) (by kernel_rfl) (by kernel_rfl) (fun _ _ _ h => h) (Or.inr ⟨by rfl, rfl⟩) (by assumption) ?r338
                refine nz ?_
                refine wpAnyH_take (i := 12) (v := undef) rfl (by kernel_rfl) (by kernel_rfl) (by kernel_rfl) (fun _ _ _ h => h) (Or.inr ⟨by rfl, rfl⟩) (by assumption) ?r339
                refine nz ?_
                refine wpAnyH_take (i := 13) (v := undef) rfl (by kernel_rfl) (by kernel_rfl) (by kernel_rfl) (fun _ _ _ h => h) (Or.inr ⟨by rfl, rfl⟩) (by assumption) ?r340
                refine nz ?_
                refine wpAnyH_take (i := 14) (v := undef) rfl (by kernel_rfl) (by kernel_rfl) (by kernel_rfl) (fun _ _ _ h => h) (Or.inr ⟨by rfl, rfl⟩) (by assumption) ?r341
                refine nz ?_
                refine wpAnyH_take (i := 15) (v := undef) rfl (by kernel_rfl) (by kernel_rfl) (by kernel_rfl) (fun _ _ _ h => h) (Or.inr ⟨by rfl, rfl⟩) (by assumption) ?r342
                refine nz ?_
                refine wpAnyH_take (i := 16) (v := undef) rfl (by kernel_rfl) (by kernel_rfl) (by kernel_rfl) (fun _ _ _ h => h) (Or.inr ⟨by rfl, rfl⟩) (by assumption) ?r343
                refine nz ?_
                refine tp 17 _ ?r344
                refine nz ?_
                refine wpAnyH_ready (rs := [18]) (by kernel_rfl) (by simp) ?_
                refine AllReadyH.cons rfl (fun K hK => ?_) ?nil18
                case nil18 => exact AllReadyH.nil
                go_simp
                refine hK.out _ _ ⟨by rw [setRow_other _ _ _ _ (by omega)]; exact S3.r6⟩ (fun hHeld => ?_)
                clear hK K
                refine tp 19 _ ?r345
                refine nz ?_
                refine wpAnyH_done (by kernel_rfl) ?_ _
                go_wp2
                refine bodyPost_ret (res173 Tryz.results100 _ _ w.heap.size (rhA hh) _ rfl rfl rfl (setRow_heap w3.drew _ _ _ 173 _ S3.r4)) rfl ⟨?_, ?_⟩
                · exact congrArg (fun x => Ending.returned (.tuple #[.agg (rhA hh), .bool x])) (by rw [HB.out, hk]; simp)
                · exact Below.setRow S3.bl.drew (Nat.le_refl _) _
              case true =>
                refine wp_region_held_drew (S := fun W' => RdC W' (w.heap.size + 1) hh) (by kernel_rfl) (RdC.mk S3.r6) (fun hHeld => ?_)
                refine tk 0 ?v346 ?y346 ?r346
                case y346 => (intro W' hW; have hb6 : blk W' (w.heap.size + 1) = _ := hW.r6; go_simp; try with_reducible rfl)
                refine nz ?_
                refine tp 1 _ ?r347
                refine nz ?_
                refine tp 2 _ ?r348
                refine nz ?_
                refine tp 3 _ ?r349
                refine nz ?_
                refine tp 4 _ ?r350
                refine nz ?_
                refine tp 5 _ ?r351
                refine nz ?_
                refine tp 6 _ ?r352
                refine nz ?_
                refine tp 7 _ ?r353
                refine nz ?_
                refine tp 8 _ ?r354
                refine nz ?_
                refine tp 9 _ ?r355
                refine nz ?_
                refine tp 10 _ ?r356
                refine nz ?_
                refine tp 11 _ ?r357
                refine nz ?_
                refine tk 12 ?v358 ?y358 ?r358
                case y358 => (intro W' hW; obtain ⟨d0, d1, d2, d3, d4, d5, d6, d7, d8, d9, d10⟩ := hW.cs; go_simp; try with_reducible rfl)
                refine nz ?_
                refine tp 13 _ ?r359
                refine nz ?_
                refine tp 14 _ ?r360
                refine nz ?_
                refine tk 15 ?v361 ?y361 ?r361
                case y361 => (intro W' hW; obtain ⟨d0, d1, d2, d3, d4, d5, d6, d7, d8, d9, d10⟩ := hW.cs; go_simp; try with_reducible rfl)
                refine nz ?_
                refine tp 16 _ ?r362
                refine nz ?_
                refine tp 17 _ ?r363
                refine nz ?_
                refine wpAnyH_ready (rs := [18]) (by kernel_rfl) (by simp) ?_
                refine AllReadyH.cons rfl (fun K hK => ?_) ?nil18
                case nil18 => exact AllReadyH.nil
                go_simp
                refine hK.out _ _ ⟨by rw [setRow_other _ _ _ _ (by omega)]; exact S3.r6⟩ (fun hHeld => ?_)
                clear hK K
                refine tp 19 _ ?r364
                refine nz ?_
                refine wpAnyH_done (by kernel_rfl) ?_ _
                go_wp2
                refine bodyPost_ret (res173 Tryz.results100 _ _ w.heap.size (rhA hh) _ rfl rfl rfl (setRow_heap w3.drew _ _ _ 173 _ S3.r4)) rfl ⟨?_, ?_⟩
                · exact congrArg (fun x => Ending.returned (.tuple #[.agg (rhA hh), .bool x])) (by rw [HB.out, hk]; simp)
                · exact Below.setRow S3.bl.drew (Nat.le_refl _) _
          · have hk0 : (if hh.ret = true then decide (1 ≤ hh.alg ∧ hh.alg ≤ 3) else true && decide (0 < hh.alg)) = false := by rw [if_pos hr, decide_eq_false_iff_not]; omega
            have HK : Hid _ := hk0
            clear hr hk0
            go_wp2_with fail
            have hk := HK.out
            clear d0 d1 d2 d3 d4 d5 d6 d7 d8 d9 d10
            generalize w2.drew = w3 at *
            have hb4 : blk w3 w.heap.size = some (.cells zrhA 173 (0, 0)) := S3.r4
            have hb2 := HB2.out
            clear HB2
            cases b1
            case false =>
              refine wp_region_held_drew (S := fun W' => RdC W' (w.heap.size + 1) hh) (by kernel_rfl) (RdC.mk S3.r6) (fun hHeld => ?_)
              refine tk 0 ?v365 ?y365 ?r365
              case y365 => (intro W' hW; have hb6 : blk W' (w.heap.size + 1) = _ := hW.r6; go_simp; try with_reducible rfl)
              refine nz ?_
              refine tp 1 _ ?r366
              refine nz ?_
              refine tp 2 _ ?r367
              refine nz ?_
              refine wpAnyH_take (i := 3) (v := undef) rfl (by kernel_rfl) (by kernel_rfl) (by kernel_rfl) (fun _ _ _ h => h) (Or.inr ⟨by rfl, rfl⟩) (by assumption) ?r368
              refine nz ?_
              refine wpAnyH_take (i := 4) (v := undef) rfl (by kernel_rfl) (by kernel_rfl) (by kernel_rfl) (fun _ _ _ h => h) (Or.inr ⟨by rfl, rfl⟩) (by assumption) ?r369
              refine nz ?_
              refine wpAnyH_take (i := 5) (v := undef) rfl (by kernel_rfl) (by kernel_rfl) (by kernel_rfl) (fun _ _ _ h => h) (Or.inr ⟨by rfl, rfl⟩) (by assumption) ?r370
              refine nz ?_
              refine tp 6 _ ?r371
              refine nz ?_
              refine tp 7 _ ?r372
              refine nz ?_
              refine wpAnyH_take (i := 8) (v := undef) rfl (by kernel_rfl) (by kernel_rfl) (by kernel_rfl) (fun _ _ _ h => h) (Or.inr ⟨by rfl, rfl⟩) (by assumption) ?r373
              refine nz ?_
              refine tp 9 _ ?r374
              refine nz ?_
              refine tp 10 _ ?r375
              refine nz ?_
              refine wpAnyH_take (i := 11) (v := undef) rfl (by kernel_rfl) (by kernel_rfl) (by kernel_rfl) (fun _ _ _ h => h) (Or.inr ⟨by rfl, rfl⟩) (by assumption) ?r376
              refine nz ?_
              refine wpAnyH_take (i := 12) (v := undef) rfl (by kernel_rfl) (by kernel_rfl) (by kernel_rfl) (fun _ _ _ h => h) (Or.inr ⟨by rfl, rfl⟩) (by assumption) ?r377
              refine nz ?_
              refine wpAnyH_take (i := 13) (v := undef) rfl (by kernel_rfl) (by kernel_rfl) (by kernel_rfl) (fun _ _ _ h => h) (Or.inr ⟨by rfl, rfl⟩) (by assumption) ?r378
              refine nz ?_
              refine wpAnyH_take (i := 14) (v := undef) rfl (by kernel_rfl) (by kernel_rfl) (by kernel_rfl) (fun _ _ _ h => h) (Or.inr ⟨by rfl, rfl⟩) (by assumption) ?r379
              refine nz ?_
              refine wpAnyH_take (i := 15) (v := undef) rfl (by kernel_rfl) (by kernel_rfl) (by kernel_rfl) (fun _ _ _ h => h) (Or.inr ⟨by rfl, rfl⟩) (by assumption) ?r380
              refine nz ?_
              refine wpAnyH_take (i := 16) (v := undef) rfl (by kernel_rfl) (by kernel_rfl) (by kernel_rfl) (fun _ _ _ h => h) (Or.inr ⟨by rfl, rfl⟩) (by assumption) ?r381
              refine nz ?_
              refine tp 17 _ ?r382
              refine nz ?_
              refine wpAnyH_ready (rs := [18]) (by kernel_rfl) (by simp) ?_
              refine AllReadyH.cons rfl (fun K hK => ?_) ?nil18
              case nil18 => exact AllReadyH.nil
              go_simp
              refine hK.out _ _ ⟨by rw [setRow_other _ _ _ _ (by omega)]; exact S3.r6⟩ (fun hHeld => ?_)
              clear hK K
              refine tp 19 _ ?r383
              refine nz ?_
              refine wpAnyH_done (by kernel_rfl) ?_ _
              go_wp2
              refine bodyPost_ret (res173 Tryz.results100 _ _ w.heap.size (rhA hh) _ rfl rfl rfl (setRow_heap w3.drew _ _ _ 173 _ S3.r4)) rfl ⟨?_, ?_⟩
              · exact congrArg (fun x => Ending.returned (.tuple #[.agg (rhA hh), .bool x])) (by rw [HB.out, hk]; simp)
              · exact Below.setRow S3.bl.drew (Nat.le_refl _) _
            case true =>
              cases b2
              case false =>
                refine wp_region_held_drew (S := fun W' => RdC W' (w.heap.size + 1) hh) (by kernel_rfl) (RdC.mk S3.r6) (fun hHeld => ?_)
                refine tk 0 ?v384 ?y384 ?r384
                case y384 => (intro W' hW; have hb6 : blk W' (w.heap.size + 1) = _ := hW.r6; go_simp; try with_reducible rfl)
                refine nz ?_
                refine tp 1 _ ?r385
                refine nz ?_
                refine tp 2 _ ?r386
                refine nz ?_
                refine tp 3 _ ?r387
                refine nz ?_
                refine tp 4 _ ?r388
                refine nz ?_
                refine tp 5 _ ?r389
                refine nz ?_
                refine tp 6 _ ?r390
                refine nz ?_
                refine tp 7 _ ?r391
                refine nz ?_
                refine wpAnyH_take (i := 8) (v := undef) rfl (by kernel_rfl) (by kernel_rfl) (by kernel_rfl) (fun _ _ _ h => h) (Or.inr ⟨by rfl, rfl⟩) (by assumption) ?r392
                refine nz ?_
                refine tp 9 _ ?r393
                refine nz ?_
                refine tp 10 _ ?r394
                refine nz ?_
                refine wpAnyH_take (i := 11) (v := undef) rfl (by kernel_rfl) (by kernel_rfl) (by kernel_rfl) (fun _ _ _ h => h) (Or.inr ⟨by rfl, rfl⟩) (by assumption) ?r395
                refine nz ?_
                refine wpAnyH_take (i := 12) (v := undef) rfl (by kernel_rfl) (by kernel_rfl) (by kernel_rfl) (fun _ _ _ h => h) (Or.inr ⟨by rfl, rfl⟩) (by assumption) ?r396
                refine nz ?_
                refine wpAnyH_take (i := 13) (v := undef) rfl (by kernel_rfl) (by kernel_rfl) (by kernel_rfl) (fun _ _ _ h => h) (Or.inr ⟨by rfl, rfl⟩) (by assumption) ?r397
                refine nz ?_
                refine wpAnyH_take (i := 14) (v := undef) rfl (by kernel_rfl) (by kernel_rfl) (by kernel_rfl) (fun _ _ _ h => h) (Or.inr ⟨by rfl, rfl⟩) (by assumption) ?r398
                refine nz ?_
                refine wpAnyH_take (i := 15) (v := undef) rfl (by kernel_rfl) (by kernel_rfl) (by kernel_rfl) (fun _ _ _ h => h) (Or.inr ⟨by rfl, rfl⟩) (by assumption) ?r399
                refine nz ?_
                refine wpAnyH_take (i := 16) (v := undef) rfl (by kernel_rfl) (by kernel_rfl) (by kernel_rfl) (fun _ _ _ h => h) (Or.inr ⟨by rfl, rfl⟩) (by assumption) ?r400
                refine nz ?_
                refine tp 17 _ ?r401
                refine nz ?_
                refine wpAnyH_ready (rs := [18]) (by kernel_rfl) (by simp) ?_
                refine AllReadyH.cons rfl (fun K hK => ?_) ?nil18
                case nil18 => exact AllReadyH.nil
                go_simp
                refine hK.out _ _ ⟨by rw [setRow_other _ _ _ _ (by omega)]; exact S3.r6⟩ (fun hHeld => ?_)
                clear hK K
                refine tp 19 _ ?r402
                refine nz ?_
                refine wpAnyH_done (by kernel_rfl) ?_ _
                go_wp2
                refine bodyPost_ret (res173 Tryz.results100 _ _ w.heap.size (rhA hh) _ rfl rfl rfl (setRow_heap w3.drew _ _ _ 173 _ S3.r4)) rfl ⟨?_, ?_⟩
                · exact congrArg (fun x => Ending.returned (.tuple #[.agg (rhA hh), .bool x])) (by rw [HB.out, hk]; simp)
                · exact Below.setRow S3.bl.drew (Nat.le_refl _) _
              case true =>
                refine wp_region_held_drew (S := fun W' => RdC W' (w.heap.size + 1) hh) (by kernel_rfl) (RdC.mk S3.r6) (fun hHeld => ?_)
                refine tk 0 ?v403 ?y403 ?r403
                case y403 => (intro W' hW; have hb6 : blk W' (w.heap.size + 1) = _ := hW.r6; go_simp; try with_reducible rfl)
                refine nz ?_
                refine tp 1 _ ?r404
                refine nz ?_
                refine tp 2 _ ?r405
                refine nz ?_
                refine tp 3 _ ?r406
                refine nz ?_
                refine tp 4 _ ?r407
                refine nz ?_
                refine tp 5 _ ?r408
                refine nz ?_
                refine tp 6 _ ?r409
                refine nz ?_
                refine tp 7 _ ?r410
                refine nz ?_
                refine tp 8 _ ?r411
                refine nz ?_
                refine tp 9 _ ?r412
                refine nz ?_
                refine tp 10 _ ?r413
                refine nz ?_
                refine wpAnyH_take (i := 11) (v := undef) rfl (by kernel_rfl) (by kernel_rfl) (by kernel_rfl) (fun _ _ _ h => h) (Or.inr ⟨by rfl, rfl⟩) (by assumption) ?r414
                refine nz ?_
                refine wpAnyH_take (i := 12) (v := undef) rfl (by kernel_rfl) (by kernel_rfl) (by kernel_rfl) (fun _ _ _ h => h) (Or.inr ⟨by rfl, rfl⟩) (by assumption) ?r415
                refine nz ?_
                refine wpAnyH_take (i := 13) (v := undef) rfl (by kernel_rfl) (by kernel_rfl) (by kernel_rfl) (fun _ _ _ h => h) (Or.inr ⟨by rfl, rfl⟩) (by assumption) ?r416
                refine nz ?_
                refine wpAnyH_take (i := 14) (v := undef) rfl (by kernel_rfl) (by kernel_rfl) (by kernel_rfl) (fun _ _ _ h => h) (Or.inr ⟨by rfl, rfl⟩) (by assumption) ?r417
                refine nz ?_
                refine wpAnyH_take (i := 15) (v := undef) rfl (by kernel_rfl) (by kernel_rfl) (by kernel_rfl) (fun _ _ _ h => h) (Or.inr ⟨by rfl, rfl⟩) (by assumption) ?r418
                refine nz ?_
                refine wpAnyH_take (i := 16) (v := undef) rfl (by kernel_rfl) (by kernel_rfl) (by kernel_rfl) (fun _ _ _ h => h) (Or.inr ⟨by rfl, rfl⟩) (by assumption) ?r419
                refine nz ?_
                refine tp 17 _ ?r420
                refine nz ?_
                refine wpAnyH_ready (rs := [18]) (by kernel_rfl) (by simp) ?_
                refine AllReadyH.cons rfl (fun K hK => ?_) ?nil18
                case nil18 => exact AllReadyH.nil
                go_simp
                refine hK.out _ _ ⟨by rw [setRow_other _ _ _ _ (by omega)]; exact S3.r6⟩ (fun hHeld => ?_)
                clear hK K
                refine tp 19 _ ?r421
                refine nz ?_
                refine wpAnyH_done (by kernel_rfl) ?_ _
                go_wp2
                refine bodyPost_ret (res173 Tryz.results100 _ _ w.heap.size (rhA hh) _ rfl rfl rfl (setRow_heap w3.drew _ _ _ 173 _ S3.r4)) rfl ⟨?_, ?_⟩
                · exact congrArg (fun x => Ending.returned (.tuple #[.agg (rhA hh), .bool x])) (by rw [HB.out, hk]; simp)
                · exact Below.setRow S3.bl.drew (Nat.le_refl _) _
        · omega
    · have h0n : ¬ 0 < hh.alg := by omega
      have h0d : decide (0 < hh.alg) = false := by simpa using h0n
      refine wp_region_held_drew (S := fun W' => RdS w W' hh) (by kernel_rfl) S2.drew (fun hHeld => ?_)
      refine tp 0 _ ?r422
      refine nz ?_
      refine tk 1 ?v423 ?y423 ?r423
      case y423 => (intro W' hW; obtain ⟨d0, d1, d2, d3, d4, d5, d6, d7, d8, d9, d10⟩ := hW.cs; go_simp; try with_reducible rfl)
      refine nz ?_
      refine tp 3 _ ?r424
      refine nz ?_
      refine tk 4 ?v425 ?y425 ?r425
      case y425 => (intro W' hW; obtain ⟨d0, d1, d2, d3, d4, d5, d6, d7, d8, d9, d10⟩ := hW.cs; go_simp; try with_reducible rfl)
      refine nz ?_
      refine wpAnyH_ready (rs := [2]) (by kernel_rfl) (by simp) ?_
      refine AllReadyH.cons rfl (fun K hK => ?_) ?nil2
      case nil2 => exact AllReadyH.nil
      go_simp
      refine (rAlg_any _ _).mono ?_
      rintro e wa ⟨rfl, hwa⟩
      subst hwa
      go_wp2_with fail
      refine hK.out _ _ hHeld (fun hHeld => ?_)
      clear hK K
      refine tp 5 _ ?r426
      refine nz ?_
      refine tp 6 _ ?r427
      refine nz ?_
      refine tp 7 _ ?r428
      refine nz ?_
      refine tk 8 ?v429 ?y429 ?r429
      case y429 => (intro W' hW; obtain ⟨d0, d1, d2, d3, d4, d5, d6, d7, d8, d9, d10⟩ := hW.cs; go_simp; try with_reducible rfl)
      refine nz ?_
      refine tp 9 _ ?r430
      refine nz ?_
      refine tp 10 _ ?r431
      refine nz ?_
      refine tp 11 _ ?r432
      refine nz ?_
      refine wpAnyH_done (by kernel_rfl) ?_ _
      have S3 := hHeld
      clear hHeld S2
      obtain ⟨d0, d1, d2, d3, d4, d5, d6, d7, d8, d9, d10⟩ := S3.cs
      cases hr : hh.ret
      case false =>
        rw [hr] at d7
        have hk : (if hh.ret = true then decide (1 ≤ hh.alg ∧ hh.alg ≤ 3) else true && decide (0 < hh.alg)) = false := by rw [if_neg (by rw [hr]; decide), Bool.true_and, decide_eq_false_iff_not]; omega
        have HK : Hid _ := hk
        clear hk hr
        go_wp2_with fail
        have hk := HK.out
        clear d0 d1 d2 d3 d4 d5 d6 d7 d8 d9 d10
        generalize w2.drew = w3 at *
        have hb4 : blk w3 w.heap.size = some (.cells zrhA 173 (0, 0)) := S3.r4
        have hb2 := HB2.out
        clear HB2
        cases b1
        case false =>
          refine wp_region_held_drew (S := fun W' => RdC W' (w.heap.size + 1) hh) (by kernel_rfl) (RdC.mk S3.r6) (fun hHeld => ?_)
          refine tk 0 ?v433 ?y433 ?r433
          case y433 => (intro W' hW; have hb6 : blk W' (w.heap.size + 1) = _ := hW.r6; go_simp; try with_reducible rfl)
          refine nz ?_
          refine tp 1 _ ?r434
          refine nz ?_
          refine tp 2 _ ?r435
          refine nz ?_
          refine wpAnyH_take (i := 3) (v := undef) rfl (by kernel_rfl) (by kernel_rfl) (by kernel_rfl) (fun _ _ _ h => h) (Or.inr ⟨by rfl, rfl⟩) (by assumption) ?r436
          refine nz ?_
          refine wpAnyH_take (i := 4) (v := undef) rfl (by kernel_rfl) (by kernel_rfl) (by kernel_rfl) (fun _ _ _ h => h) (Or.inr ⟨by rfl, rfl⟩) (by assumption) ?r437
          refine nz ?_
          refine wpAnyH_take (i := 5) (v := undef) rfl (by kernel_rfl) (by kernel_rfl) (by kernel_rfl) (fun _ _ _ h => h) (Or.inr ⟨by rfl, rfl⟩) (by assumption) ?r438
          refine nz ?_
          refine tp 6 _ ?r439
          refine nz ?_
          refine tp 7 _ ?r440
          refine nz ?_
          refine wpAnyH_take (i := 8) (v := undef) rfl (by kernel_rfl) (by kernel_rfl) (by kernel_rfl) (fun _ _ _ h => h) (Or.inr ⟨by rfl, rfl⟩) (by assumption) ?r441
          refine nz ?_
          refine tp 9 _ ?r442
          refine nz ?_
          refine tp 10 _ ?r443
          refine nz ?_
          refine wpAnyH_take (i := 11) (v := undef) rfl (by kernel_rfl) (by kernel_rfl) (by kernel_rfl) (fun _ _ _ h => h) (Or.inr ⟨by rfl, rfl⟩) (by assumption) ?r444
          refine nz ?_
          refine wpAnyH_take (i := 12) (v := undef) rfl (by kernel_rfl) (by kernel_rfl) (by kernel_rfl) (fun _ _ _ h => h) (Or.inr ⟨by rfl, rfl⟩) (by assumption) ?r445
          refine nz ?_
          refine wpAnyH_take (i := 13) (v := undef) rfl (by kernel_rfl) (by kernel_rfl) (by kernel_rfl) (fun _ _ _ h => h) (Or.inr ⟨by rfl, rfl⟩) (by assumption) ?r446
          refine nz ?_
          refine wpAnyH_take (i := 14) (v := undef) rfl (by kernel_rfl) (by kernel_rfl) (by kernel_rfl) (fun _ _ _ h => h) (Or.inr ⟨by rfl, rfl⟩) (by assumption) ?r447
          refine nz ?_
          refine wpAnyH_take (i := 15) (v := undef) rfl (by kernel_rfl) (by kernel_rfl) (by kernel_rfl) (fun _ _ _ h => h) (Or.inr ⟨by rfl, rfl⟩) (by assumption) ?r448
          refine nz ?_
          refine wpAnyH_take (i := 16) (v := undef) rfl (by kernel_rfl) (by kernel_rfl) (by kernel_rfl) (fun _ _ _ h => h) (Or.inr ⟨by rfl, rfl⟩) (by assumption) ?r449
          refine nz ?_
          refine tp 17 _ ?r450
          refine nz ?_
          refine wpAnyH_ready (rs := [18]) (by kernel_rfl) (by simp) ?_
          refine AllReadyH.cons rfl (fun K hK => ?_) ?nil18
          case nil18 => exact AllReadyH.nil
          go_simp
          refine hK.out _ _ ⟨by rw [setRow_other _ _ _ _ (by omega)]; exact S3.r6⟩ (fun hHeld => ?_)
          clear hK K
          refine tp 19 _ ?r451
          refine nz ?_
          refine wpAnyH_done (by kernel_rfl) ?_ _
          go_wp2
          refine bodyPost_ret (res173 Tryz.results100 _ _ w.heap.size (rhA hh) _ rfl rfl rfl (setRow_heap w3.drew _ _ _ 173 _ S3.r4)) rfl ⟨?_, ?_⟩
          · exact congrArg (fun x => Ending.returned (.tuple #[.agg (rhA hh), .bool x])) (by rw [HB.out, hk]; simp)
          · exact Below.setRow S3.bl.drew (Nat.le_refl _) _
        case true =>
          cases b2
          case false =>
            refine wp_region_held_drew (S := fun W' => RdC W' (w.heap.size + 1) hh) (by kernel_rfl) (RdC.mk S3.r6) (fun hHeld => ?_)
            refine tk 0 ?v452 ?y452 ?r452
            case y452 => (intro W' hW; have hb6 : blk W' (w.heap.size + 1) = _ := hW.r6; go_simp; try with_reducible rfl)
            refine nz ?_
            refine tp 1 _ ?r453
            refine nz ?_
            refine tp 2 _ ?r454
            refine nz ?_
            refine tp 3 _ ?r455
            refine nz ?_
            refine tp 4 _ ?r456
            refine nz ?_
            refine tp 5 _ ?r457
            refine nz ?_
            refine tp 6 _ ?r458
            refine nz ?_
            refine tp 7 _ ?r459
            refine nz ?_
            refine wpAnyH_take (i := 8) (v := undef) rfl (by kernel_rfl) (by kernel_rfl) (by kernel_rfl) (fun _ _ _ h => h) (Or.inr ⟨by rfl, rfl⟩) (by assumption) ?r460
            refine nz ?_
            refine tp 9 _ ?r461
            refine nz ?_
            refine tp 10 _ ?r462
            refine nz ?_
            refine wpAnyH_take (i := 11) (v := undef) rfl (by kernel_rfl) (by kernel_rfl) (by kernel_rfl) (fun _ _ _ h => h) (Or.inr ⟨by rfl, rfl⟩) (by assumption) ?r463
            refine nz ?_
            refine wpAnyH_take (i := 12) (v := undef) rfl (by kernel_rfl) (by kernel_rfl) (by kernel_rfl) (fun _ _ _ h => h) (Or.inr ⟨by rfl, rfl⟩) (by assumption) ?r464
            refine nz ?_
            refine wpAnyH_take (i := 13) (v := undef) rfl (by kernel_rfl) (by kernel_rfl) (by kernel_rfl) (fun _ _ _ h => h) (Or.inr ⟨by rfl, rfl⟩) (by assumption) ?r465
            refine nz ?_
            refine wpAnyH_take (i := 14) (v := undef) rfl (by kernel_rfl) (by kernel_rfl) (by kernel_rfl) (fun _ _ _ h => h) (Or.inr ⟨by rfl, rfl⟩) (by assumption) ?r466
            refine nz ?_
            refine wpAnyH_take (i := 15) (v := undef) rfl (by kernel_rfl) (by kernel_rfl) (by kernel_rfl) (fun _ _ _ h => h) (Or.inr ⟨by rfl, rfl⟩) (by assumption) ?r467
            refine nz ?_
            refine wpAnyH_take (i := 16) (v := undef) rfl (by kernel_rfl) (by kernel_rfl) (by kernel_rfl) (fun _ _ _ h => h) (Or.inr ⟨by rfl, rfl⟩) (by assumption) ?r468
            refine nz ?_
            refine tp 17 _ ?r469
            refine nz ?_
            refine wpAnyH_ready (rs := [18]) (by kernel_rfl) (by simp) ?_
            refine AllReadyH.cons rfl (fun K hK => ?_) ?nil18
            case nil18 => exact AllReadyH.nil
            go_simp
            refine hK.out _ _ ⟨by rw [setRow_other _ _ _ _ (by omega)]; exact S3.r6⟩ (fun hHeld => ?_)
            clear hK K
            refine tp 19 _ ?r470
            refine nz ?_
            refine wpAnyH_done (by kernel_rfl) ?_ _
            go_wp2
            refine bodyPost_ret (res173 Tryz.results100 _ _ w.heap.size (rhA hh) _ rfl rfl rfl (setRow_heap w3.drew _ _ _ 173 _ S3.r4)) rfl ⟨?_, ?_⟩
            · exact congrArg (fun x => Ending.returned (.tuple #[.agg (rhA hh), .bool x])) (by rw [HB.out, hk]; simp)
            · exact Below.setRow S3.bl.drew (Nat.le_refl _) _
          case true =>
            refine wp_region_held_drew (S := fun W' => RdC W' (w.heap.size + 1) hh) (by kernel_rfl) (RdC.mk S3.r6) (fun hHeld => ?_)
            refine tk 0 ?v471 ?y471 ?r471
            case y471 => (intro W' hW; have hb6 : blk W' (w.heap.size + 1) = _ := hW.r6; go_simp; try with_reducible rfl)
            refine nz ?_
            refine tp 1 _ ?r472
            refine nz ?_
            refine tp 2 _ ?r473
            refine nz ?_
            refine tp 3 _ ?r474
            refine nz ?_
            refine tp 4 _ ?r475
            refine nz ?_
            refine tp 5 _ ?r476
            refine nz ?_
            refine tp 6 _ ?r477
            refine nz ?_
            refine tp 7 _ ?r478
            refine nz ?_
            refine tp 8 _ ?r479
            refine nz ?_
            refine tp 9 _ ?r480
            refine nz ?_
            refine tp 10 _ ?r481
            refine nz ?_
            refine wpAnyH_take (i := 11) (v := undef) rfl (by kernel_rfl) (by kernel_rfl) (by kernel_rfl) (fun _ _ _ h => h) (Or.inr ⟨by rfl, rfl⟩) (by assumption) ?r482
            refine nz ?_
            refine wpAnyH_take (i := 12) (v := undef) rfl (by kernel_rfl) (by kernel_rfl) (by kernel_rfl) (fun _ _ _ h => h) (Or.inr ⟨by rfl, rfl⟩) (by assumption) ?r483
            refine nz ?_
            refine wpAnyH_take (i := 13) (v := undef) rfl (by kernel_rfl) (by kernel_rfl) (by kernel_rfl) (fun _ _ _ h => h) (Or.inr ⟨by rfl, rfl⟩) (by assumption) ?r484
            refine nz ?_
            refine wpAnyH_take (i := 14) (v := undef) rfl (by kernel_rfl) (by kernel_rfl) (by kernel_rfl) (fun _ _ _ h => h) (Or.inr ⟨by rfl, rfl⟩) (by assumption) ?r485
            refine nz ?_
            refine wpAnyH_take (i := 15) (v := undef) rfl (by kernel_rfl) (by kernel_rfl) (by kernel_rfl) (fun _ _ _ h => h) (Or.inr ⟨by rfl, rfl⟩) (by assumption) ?r486
            refine nz ?_
            refine wpAnyH_take (i := 16) (v := undef) rfl (by kernel_rfl) (by kernel_rfl) (by kernel_rfl) (fun _ _ _ h => h) (Or.inr ⟨by rfl, rfl⟩) (by assumption) ?r487
            refine nz ?_
            refine tp 17 _ ?r488
            refine nz ?_
            refine wpAnyH_ready (rs := [18]) (by kernel_rfl) (by simp) ?_
            refine AllReadyH.cons rfl (fun K hK => ?_) ?nil18
            case nil18 => exact AllReadyH.nil
            go_simp
            refine hK.out _ _ ⟨by rw [setRow_other _ _ _ _ (by omega)]; exact S3.r6⟩ (fun hHeld => ?_)
            clear hK K
            refine tp 19 _ ?r489
            refine nz ?_
            refine wpAnyH_done (by kernel_rfl) ?_ _
            go_wp2
            refine bodyPost_ret (res173 Tryz.results100 _ _ w.heap.size (rhA hh) _ rfl rfl rfl (setRow_heap w3.drew _ _ _ 173 _ S3.r4)) rfl ⟨?_, ?_⟩
            · exact congrArg (fun x => Ending.returned (.tuple #[.agg (rhA hh), .bool x])) (by rw [HB.out, hk]; simp)
            · exact Below.setRow S3.bl.drew (Nat.le_refl _) _
      case true =>
        rw [hr] at d7
        by_cases ha : 1 ≤ (hh.alg : Int)
        · omega
        · have hk0 : (if hh.ret = true then decide (1 ≤ hh.alg ∧ hh.alg ≤ 3) else true && decide (0 < hh.alg)) = false := by rw [if_pos hr, decide_eq_false_iff_not]; omega
          have HK : Hid _ := hk0
          clear hr hk0
          go_wp2_with fail
          have hk := HK.out
          clear d0 d1 d2 d3 d4 d5 d6 d7 d8 d9 d10
          generalize w2.drew = w3 at *
          have hb4 : blk w3 w.heap.size = some (.cells zrhA 173 (0, 0)) := S3.r4
          have hb2 := HB2.out
          clear HB2
          cases b1
          case false =>
            refine wp_region_held_drew (S := fun W' => RdC W' (w.heap.size + 1) hh) (by kernel_rfl) (RdC.mk S3.r6) (fun hHeld => ?_)
            refine tk 0 ?v490 ?y490 ?r490
            case y490 => (intro W' hW; have hb6 : blk W' (w.heap.size + 1) = _ := hW.r6; go_simp; try with_reducible rfl)
            refine nz ?_
            refine tp 1 _ ?r491
            refine nz ?_
            refine tp 2 _ ?r492
            refine nz ?_
            refine wpAnyH_take (i := 3) (v := undef) rfl (by kernel_rfl) (by kernel_rfl) (by kernel_rfl) (fun _ _ _ h => h) (Or.inr ⟨by rfl, rfl⟩) (by assumption) ?r493
            refine nz ?_
            refine wpAnyH_take (i := 4) (v := undef) rfl (by kernel_rfl) (by kernel_rfl) (by kernel_rfl) (fun _ _ _ h => h) (Or.inr ⟨by rfl, rfl⟩) (by assumption) ?r494
            refine nz ?_
            refine wpAnyH_take (i := 5) (v := undef) rfl (by kernel_rfl) (by kernel_rfl) (by kernel_rfl) (fun _ _ _ h => h) (Or.inr ⟨by rfl, rfl⟩) (by assumption) ?r495
            refine nz ?_
            refine tp 6 _ ?r496
            refine nz ?_
            refine tp 7 _ ?r497
            refine nz ?_
            refine wpAnyH_take (i := 8) (v := undef) rfl (by kernel_rfl) (by kernel_rfl) (by kernel_rfl) (fun _ _ _ h => h) (Or.inr ⟨by rfl, rfl⟩) (by assumption) ?r498
            refine nz ?_
            refine tp 9 _ ?r499
            refine nz ?_
            refine tp 10 _ ?r500
            refine nz ?_
            refine wpAnyH_take (i := 11) (v := undef) rfl (by kernel_rfl) (by kernel_rfl) (by kernel_rfl) (fun _ _ _ h => h) (Or.inr ⟨by rfl, rfl⟩) (by assumption) ?r501
            refine nz ?_
            refine wpAnyH_take (i := 12) (v := undef) rfl (by kernel_rfl) (by kernel_rfl) (by kernel_rfl) (fun _ _ _ h => h) (Or.inr ⟨by rfl, rfl⟩) (by assumption) ?r502
            refine nz ?_
            refine wpAnyH_take (i := 13) (v := undef) rfl (by kernel_rfl) (by kernel_rfl) (by kernel_rfl) (fun _ _ _ h => h) (Or.inr ⟨by rfl, rfl⟩) (by assumption) ?r503
            refine nz ?_
            refine wpAnyH_take (i := 14) (v := undef) rfl (by kernel_rfl) (by kernel_rfl) (by kernel_rfl) (fun _ _ _ h => h) (Or.inr ⟨by rfl, rfl⟩) (by assumption) ?r504
            refine nz ?_
            refine wpAnyH_take (i := 15) (v := undef) rfl (by kernel_rfl) (by kernel_rfl) (by kernel_rfl) (fun _ _ _ h => h) (Or.inr ⟨by rfl, rfl⟩) (by assumption) ?r505
            refine nz ?_
            refine wpAnyH_take (i := 16) (v := undef) rfl (by kernel_rfl) (by kernel_rfl) (by kernel_rfl) (fun _ _ _ h => h) (Or.inr ⟨by rfl, rfl⟩) (by assumption) ?r506
            refine nz ?_
            refine tp 17 _ ?r507
            refine nz ?_
            refine wpAnyH_ready (rs := [18]) (by kernel_rfl) (by simp) ?_
            refine AllReadyH.cons rfl (fun K hK => ?_) ?nil18
            case nil18 => exact AllReadyH.nil
            go_simp
            refine hK.out _ _ ⟨by rw [setRow_other _ _ _ _ (by omega)]; exact S3.r6⟩ (fun hHeld => ?_)
            clear hK K
            refine tp 19 _ ?r508
            refine nz ?_
            refine wpAnyH_done (by kernel_rfl) ?_ _
            go_wp2
            refine bodyPost_ret (res173 Tryz.results100 _ _ w.heap.size (rhA hh) _ rfl rfl rfl (setRow_heap w3.drew _ _ _ 173 _ S3.r4)) rfl ⟨?_, ?_⟩
            · exact congrArg (fun x => Ending.returned (.tuple #[.agg (rhA hh), .bool x])) (by rw [HB.out, hk]; simp)
            · exact Below.setRow S3.bl.drew (Nat.le_refl _) _
          case true =>
            cases b2
            case false =>
              refine wp_region_held_drew (S := fun W' => RdC W' (w.heap.size + 1) hh) (by kernel_rfl) (RdC.mk S3.r6) (fun hHeld => ?_)
              refine tk 0 ?v509 ?y509 ?r509
              case y509 => (intro W' hW; have hb6 : blk W' (w.heap.size + 1) = _ := hW.r6; go_simp; try with_reducible rfl)
              refine nz ?_
              refine tp 1 _ ?r510
              refine nz ?_
              refine tp 2 _ ?r511
              refine nz ?_
              refine tp 3 _ ?r512
              refine nz ?_
              refine tp 4 _ ?r513
              refine nz ?_
              refine tp 5 _ ?r514
              refine nz ?_
              refine tp 6 _ ?r515
              refine nz ?_
              refine tp 7 _ ?r516
              refine nz ?_
              refine wpAnyH_take (i := 8) (v := undef) rfl (by kernel_rfl) (by kernel_rfl) (by kernel_rfl) (fun _ _ _ h => h) (Or.inr ⟨by rfl, rfl⟩) (by assumption) ?r517
              refine nz ?_
              refine tp 9 _ ?r518
              refine nz ?_
              refine tp 10 _ ?r519
              refine nz ?_
              refine wpAnyH_take (i := 11) (v := undef) rfl (by kernel_rfl) (by kernel_rfl) (by kernel_rfl) (fun _ _ _ h => h) (Or.inr ⟨by rfl, rfl⟩) (by assumption) ?r520
              refine nz ?_
              refine wpAnyH_take (i := 12) (v := undef) rfl (by kernel_rfl) (by kernel_rfl) (by kernel_rfl) (fun _ _ _ h => h) (Or.inr ⟨by rfl, rfl⟩) (by assumption) ?r521
              refine nz ?_
              refine wpAnyH_take (i := 13) (v := undef) rfl (by kernel_rfl) (by kernel_rfl) (by kernel_rfl) (fun _ _ _ h => h) (Or.inr ⟨by rfl, rfl⟩) (by assumption) ?r522
              refine nz ?_
              refine wpAnyH_take (i := 14) (v := undef) rfl (by kernel_rfl) (by kernel_rfl) (by kernel_rfl) (fun _ _ _ h => h) (Or.inr ⟨by rfl, rfl⟩) (by assumption) ?r523
              refine nz ?_
              refine wpAnyH_take (i := 15) (v := undef) rfl (by kernel_rfl) (by kernel_rfl) (by kernel_rfl) (fun _ _ _ h => h) (Or.inr ⟨by rfl, rfl⟩) (by assumption) ?r524
              refine nz ?_
              refine wpAnyH_take (i := 16) (v := undef) rfl (by kernel_rfl) (by kernel_rfl) (by kernel_rfl) (fun _ _ _ h => h) (Or.inr ⟨by rfl, rfl⟩) (by assumption) ?r525
              refine nz ?_
              refine tp 17 _ ?r526
              refine nz ?_
              refine wpAnyH_ready (rs := [18]) (by kernel_rfl) (by simp) ?_
              refine AllReadyH.cons rfl (fun K hK => ?_) ?nil18
              case nil18 => exact AllReadyH.nil
              go_simp
              refine hK.out _ _ ⟨by rw [setRow_other _ _ _ _ (by omega)]; exact S3.r6⟩ (fun hHeld => ?_)
              clear hK K
              refine tp 19 _ ?r527
              refine nz ?_
              refine wpAnyH_done (by kernel_rfl) ?_ _
              go_wp2
              refine bodyPost_ret (res173 Tryz.results100 _ _ w.heap.size (rhA hh) _ rfl rfl rfl (setRow_heap w3.drew _ _ _ 173 _ S3.r4)) rfl ⟨?_, ?_⟩
              · exact congrArg (fun x => Ending.returned (.tuple #[.agg (rhA hh), .bool x])) (by rw [HB.out, hk]; simp)
              · exact Below.setRow S3.bl.drew (Nat.le_refl _) _
            case true =>
              refine wp_region_held_drew (S := fun W' => RdC W' (w.heap.size + 1) hh) (by kernel_rfl) (RdC.mk S3.r6) (fun hHeld => ?_)
              refine tk 0 ?v528 ?y528 ?r528
              case y528 => (intro W' hW; have hb6 : blk W' (w.heap.size + 1) = _ := hW.r6; go_simp; try with_reducible rfl)
              refine nz ?_
              refine tp 1 _ ?r529
              refine nz ?_
              refine tp 2 _ ?r530
              refine nz ?_
              refine tp 3 _ ?r531
              refine nz ?_
              refine tp 4 _ ?r532
              refine nz ?_
              refine tp 5 _ ?r533
              refine nz ?_
              refine tp 6 _ ?r534
              refine nz ?_
              refine tp 7 _ ?r535
              refine nz ?_
              refine tp 8 _ ?r536
              refine nz ?_
              refine tp 9 _ ?r537
              refine nz ?_
              refine tp 10 _ ?r538
              refine nz ?_
              refine wpAnyH_take (i := 11) (v := undef) rfl (by kernel_rfl) (by kernel_rfl) (by kernel_rfl) (fun _ _ _ h => h) (Or.inr ⟨by rfl, rfl⟩) (by assumption) ?r539
              refine nz ?_
              refine wpAnyH_take (i := 12) (v := undef) rfl (by kernel_rfl) (by kernel_rfl) (by kernel_rfl) (fun _ _ _ h => h) (Or.inr ⟨by rfl, rfl⟩) (by assumption) ?r540
              refine nz ?_
              refine wpAnyH_take (i := 13) (v := undef) rfl (by kernel_rfl) (by kernel_rfl) (by kernel_rfl) (fun _ _ _ h => h) (Or.inr ⟨by rfl, rfl⟩) (by assumption) ?r541
              refine nz ?_
              refine wpAnyH_take (i := 14) (v := undef) rfl (by kernel_rfl) (by kernel_rfl) (by kernel_rfl) (fun _ _ _ h => h) (Or.inr ⟨by rfl, rfl⟩) (by assumption) ?r542
              refine nz ?_
              refine wpAnyH_take (i := 15) (v := undef) rfl (by kernel_rfl) (by kernel_rfl) (by kernel_rfl) (fun _ _ _ h => h) (Or.inr ⟨by rfl, rfl⟩) (by assumption) ?r543
              refine nz ?_
              refine wpAnyH_take (i := 16) (v := undef) rfl (by kernel_rfl) (by kernel_rfl) (by kernel_rfl) (fun _ _ _ h => h) (Or.inr ⟨by rfl, rfl⟩) (by assumption) ?r544
              refine nz ?_
              refine tp 17 _ ?r545
              refine nz ?_
              refine wpAnyH_ready (rs := [18]) (by kernel_rfl) (by simp) ?_
              refine AllReadyH.cons rfl (fun K hK => ?_) ?nil18
              case nil18 => exact AllReadyH.nil
              go_simp
              refine hK.out _ _ ⟨by rw [setRow_other _ _ _ _ (by omega)]; exact S3.r6⟩ (fun hHeld => ?_)
              clear hK K
              refine tp 19 _ ?r546
              refine nz ?_
              refine wpAnyH_done (by kernel_rfl) ?_ _
              go_wp2
              refine bodyPost_ret (res173 Tryz.results100 _ _ w.heap.size (rhA hh) _ rfl rfl rfl (setRow_heap w3.drew _ _ _ 173 _ S3.r4)) rfl ⟨?_, ?_⟩
              · exact congrArg (fun x => Ending.returned (.tuple #[.agg (rhA hh), .bool x])) (by rw [HB.out, hk]; simp)
              · exact Below.setRow S3.bl.drew (Nat.le_refl _) _
end Go.Proofs.YtgalgjmhdbncbaaGreat
