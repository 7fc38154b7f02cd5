import Derived.Test.YtgalgjmhdbncbaaGreatZt00
import Derived.Test.YtgalgjmhdbncbaaGreatZt20
import Derived.Deep.AppendLies
import Derived.Test.YtgalgjmhdbncbaaGreatZt12
import Derived.Test.YtgalgjmhdbncbaaGreatZt18
namespace Go.Proofs.YtgalgjmhdbncbaaGreat
attribute [local bitvec_to_nat] Act.put List.getElem_toArray List.getElem_cons_zero List.getElem_cons_succ List.setIfInBounds_toArray List.set_cons_zero List.set_cons_succ
open Go.RowKit
attribute [local go_sem ↓] Go.wp_at_zero Go.wp_at_succ

theorem keep_alloc {w : World} {g : Nat} {cs : Array Value} {t : TypeId} (o : Obj) (h : w.heap[g]? = some (.cells cs t (0, 0))) : (w.alloc o).heap[g]? = some (.cells cs t (0, 0)) := heap_of_old _ _ _ _ (heap_lt h) h
theorem size_alloc (w : World) (o : Obj) : (w.alloc o).heap.size = w.heap.size + 1 := by simp
theorem info173f : (Tryz.prog.info? 173).map (fun i => (i.zero, i.size, i.bytes)) = some (some (.agg zrhA), 11, 104) := by kernel_rfl
def BsS (t : TypeId) (n : Nat) (ps : Array (Nat × Value)) : Sem Value := Instr.buildSlice t n ps
theorem bs169w (ps : Array (Nat × Value)) : Instr.buildSlice 169 1 ps = BsS 169 1 ps := rfl
theorem run_bs169 (v0 v1 v2 v3 v4 v5 v6 v7 v8 v9 v10 : Value) (w : World) : Sem.run Tryz.prog (BsS 169 1 #[(0, .agg #[v0, v1, v2, v3, v4, v5, v6, v7, v8, v9, v10])]) w = .ok (.slice (some ⟨w.heap.size, 0, none⟩) 1 1) (w.alloc (.cells #[v0, v1, v2, v3, v4, v5, v6, v7, v8, v9, v10] 173)) := by kernel_rfl
theorem rappend_post (B g gs gc num : Nat) (fl : Bool) (sh : Value) (hs : List Rh) (S : Sto) (R : RSt) (gp : Nat) (H : Nat → Hd) (x : Rh) (c : Cl) (w w4 w6 : World) (o : Obj) (B4 : Below w.heap.size w w4) (f6 : Fr [g, gs, gc] (w4.alloc o) w6) (t6 : TabR w6 B g gs num fl sh hs) (s6 : StoR w6 gs gc (wroteM S x.pos (cellT c)) { R with writes := R.writes + 1 }) (t4 : TabR w4 B g gs num fl sh hs) (hrel : RelH hs H) (hov : overB fl R.user num = true ↔ S.tab ≠ some gp) (hy : HRel x ⟨c, 0⟩) (i8 : x.pos < 8) (h0 : (H x.pos).c.st = 0) (hno : ∀ j, j < 8 → ¬ hit H x.id j)
    (gn capn : Nat) (wn : World) (o2 : Obj) (hG : wn.ownsRow B 173 11 (.slice (some ⟨gn, 0, none⟩) (hs.length + 1) capn) (hs.length + 1) (rhL hs ++ (rhA x).toList) ∧ (w6.alloc o2).drew.grownBy wn sh.ownBlock ∧ (sh.ownBlock = some gn ∨ gn = w6.heap.size + 1) ∧ gn < wn.heap.size) :
    RPs w (wn.setCell ⟨g, 3, none⟩ (.slice (some ⟨gn, 0, none⟩) (hs.length + 1) capn)) B g gs gc num sh R gp (wroteM S x.pos (cellT c)) (upd H x.pos c) := by
  obtain ⟨ho, hgr, hat, hlt⟩ := hG
  have F9 : Fr sh.ownBlock.toList (w6.alloc o2).drew wn := Fr.of_grown hgr (by simp)
  have F8 : Fr sh.ownBlock.toList w6 wn := ((Fr.refl _ w6).alloc o2).drew.trans F9
  have F10 : Fr [g] wn (wn.setCell ⟨g, 3, none⟩ (.slice (some ⟨gn, 0, none⟩) (hs.length + 1) capn)) := Fr.setCell (Fr.refl _ _) (.inr (by simp)) _
  have nsh : ∀ {b : Nat} {cs : Array Value} {t : TypeId}, w6.heap[b]? = some (.cells cs t (0, 0)) → t ≠ 173 → b ∉ sh.ownBlock.toList := by
    intro b cs t hb ht hm
    obtain ⟨cur, hcur⟩ := owns_row t6.o (show sh.ownBlock = some b by simpa using hm)
    exact ne_rows hb hcur ht rfl
  have hgn := keepRow F8 t6.r (nsh t6.r (by decide))
  have hgset : (wn.setCell ⟨g, 3, none⟩ (.slice (some ⟨gn, 0, none⟩) (hs.length + 1) capn)).heap[g]? = some (.cells #[ptr gs, .int .i64 num, .bool fl, .slice (some ⟨gn, 0, none⟩) (hs.length + 1) capn] 171 (0, 0)) := by
    simpa using heap_setCell_same wn g 3 _ 171 (.slice (some ⟨gn, 0, none⟩) (hs.length + 1) capn) hgn
  have hne : gn ≠ g := by
    obtain ⟨cur, hcur⟩ := owns_row ho rfl
    exact ne_rows hcur hgn (by decide)
  have n1 := ne_rows t6.r s6.r (by decide)
  have n2 := ne_rows t6.r s6.c (by decide)
  have y6 := f6.size
  have y4 := B4.size
  simp at y6
  have y9 := F8.size
  refine ⟨{ R with writes := R.writes + 1 }, fl, _, hs ++ [x], ?_, ⟨hgset, ?_⟩, ?_, ?_, rfl, rfl, Nat.le_refl _, ?_, ?_⟩
  · exact (s6.fr F8 (nsh s6.r (by decide)) (nsh s6.c (by decide))).fr F10 (by simp; exact fun e => n1 e.symm) (by simp; exact fun e => n2 e.symm)
  · rw [List.length_append, rhL_snoc]
    exact ownsFr ho F10 (fun b hb => by simp only [Value.ownBlock, Option.some.injEq] at hb; subst hb; simp [hne])
  · have hadd := hrel.add x ⟨c, 0⟩ i8 h0 hy (fun j hj hst e => hno j hj ⟨hst, by rw [e, hy.id]⟩)
    have e : upd H x.pos c = setD H x.pos ⟨c, 0⟩ := by rw [upd_set, hrel.z x.pos i8 h0]
    rw [e]; exact hadd
  · rw [wrote_tab]; exact hov
  · intro b hb
    simp only [Value.ownBlock, Option.some.injEq] at hb
    subst hb
    rcases hat with h | h
    · exact .inl h
    · exact .inr ⟨by omega, by simpa using hlt⟩
  · refine (((Fr.of_below _ B4 (Nat.le_refl _)).alloc o).trans (f6.sub ?_)).trans ((F8.sub ?_).trans (F10.sub ?_))
    · intro b hb
      simp only [List.mem_cons, List.not_mem_nil, or_false] at hb
      rcases hb with rfl | rfl | rfl <;> simp
    · intro b hb
      simp [hb]
    · intro b hb
      simp only [List.mem_singleton] at hb
      subst hb
      simp
attribute [local go_sem ↓] al173 stw173 ldw173 bs169w
attribute [local go_sem] run_bs169 run_al173 run_stT173 stN_rh run_ldT173_0 ldN_rh blk_new blk_at blk_old blk_drew blk_setCell blk_setRow alloc_setRow alloc_setCell
set_option maxRecDepth 100000 in
set_option maxHeartbeats 8000000 in
theorem rcreate_bad (B g gs gc num : Nat) (fl : Bool) (sh : Value) (hs : List Rh) (S : Sto) (R : RSt) (gp : Nat) (H : Nat → Hd) (id : Int) (key fix : ByteArray) (cs ca cm : Int) (r : Int) (S' : Sto) (H' : Nat → Hd) (hbd : ¬ (0 ≤ id ∧ id ≤ 65535 ∧ fix.size = 4 ∧ CfgOk cs ca cm)) (hP : createP gp S H id key fix cs ca cm r S' H') (hrel : RelH hs H) (hov : overB fl R.user num = true ↔ S.tab ≠ some gp) (w : World) (t : TabR w B g gs num fl sh hs) (hS : StoR w gs gc S R) :
    Calls Tryz.prog 66 #[ptr g, .int .i64 id, .string key, .string fix, .agg #[.int .i64 cs, .int .i64 ca, .int .i64 cm]] w fun e w' => e = .returned (.int .i64 r) ∧ RPs w w' B g gs gc num sh R gp S' H' := by
  have HBD0 : Hid _ := hbd
  clear hbd
  have h1 := fun w t h => rover_any B g gs gc num fl sh hs S R w t h
  have h2 := fun w => rright_any cs ca cm w
  have h3 := fun w t => rfree_any B g gs num fl sh hs hrel.le w t
  have h4 := fun w t => rfind_any B g gs num fl sh hs id hrel.le w t
  have HQ : Hid (∀ w', Below w.heap.size w w' → RPs w w' B g gs gc num sh R gp S H) := fun w' hb => RPs.same t hS hrel hov hb
  unfold ptr at h1 h3 h4 ⊢
  have H1 : Hid _ := h1
  have H2 : Hid _ := h2
  have H3 : Hid _ := h3
  have H4 : Hid _ := h4
  have HT : Hid _ := t
  have HS : Hid _ := hS
  have HR : Hid _ := hrel
  have HO : Hid _ := hov
  have HP : Hid _ := hP
  have B0 := (Below.refl w.heap.size w).alloc (Nat.le_refl _) (.cells #[.int .i64 cs, .int .i64 ca, .int .i64 cm] 50)
  have r0 : (w.alloc (.cells #[.int .i64 cs, .int .i64 ca, .int .i64 cm] 50)).heap[w.heap.size]? = some (.cells #[.int .i64 cs, .int .i64 ca, .int .i64 cm] 50 (0, 0)) := heap_of_new _ _ _ rfl
  have HB0 : Hid _ := B0
  have HR0 : Hid _ := r0
  clear h1 h2 h3 h4 t hS hrel hov hP B0 r0
  generalize overB fl R.user num = ov at H1 HO
  have hcfi := cfgB_iff cs ca cm
  have HCF : Hid _ := hcfi
  clear hcfi
  generalize cfgB cs ca cm = cf at H2 HCF
  go_enter Tryz.func66, Tryz.ntmps66
  go_wp2_with fail
  refine (H1.out _ (HT.out.below HB0.out) (HS.out.below HB0.out)).mono ?_
  rintro e w1 ⟨rfl, b1⟩
  have B1 := HB0.out.trans (b1.mono (by simp))
  have r1 : w1.heap[w.heap.size]? = some (.cells #[.int .i64 cs, .int .i64 ca, .int .i64 cm] 50 (0, 0)) := by rw [b1.block _ (by simp)]; exact HR0.out
  have d0 : w1.cell? ⟨w.heap.size, 0, none⟩ = some (.int .i64 cs) := by rw [cell_of_row _ _ 0 _ _ _ r1]; rfl
  have d1 : w1.cell? ⟨w.heap.size, 1, none⟩ = some (.int .i64 ca) := by rw [cell_of_row _ _ 1 _ _ _ r1]; rfl
  have d2 : w1.cell? ⟨w.heap.size, 2, none⟩ = some (.int .i64 cm) := by rw [cell_of_row _ _ 2 _ _ _ r1]; rfl
  clear b1
  go_wp2_with fail
  refine (H2.out _).mono ?_
  rintro e w2 ⟨rfl, b2⟩
  have B2 := B1.trans (b2.mono B1.size)
  have r2 : w2.heap[w.heap.size]? = some (.cells #[.int .i64 cs, .int .i64 ca, .int .i64 cm] 50 (0, 0)) := by rw [b2.block _ (heap_lt r1)]; exact r1
  clear b2 r1 B1 d0 d1 d2
  go_wp2_with fail
  refine (H3.out _ (HT.out.below B2)).mono ?_
  rintro e w3 ⟨⟨at', hat, rfl⟩, hw3⟩
  have HW3 : Hid _ := hw3
  clear hw3
  go_wp2_with fail
  refine (H4.out _ (by rw [HW3.out]; exact HT.out.below B2)).mono ?_
  rintro e w4 ⟨⟨there, hth, rfl⟩, hw4⟩
  have B4 : Below w.heap.size w w4 := by rw [hw4, HW3.out]; exact B2
  clear hw4 hat hth B2 r2 HW3
  have HB4 : Hid _ := B4
  clear B4
  rcases HP.out with ⟨h1, e1, e2, e3⟩ | ⟨h1, hc⟩
  · have hov : ov = true := HO.out.2 h1
    have HE : Hid _ := And.intro e1 (And.intro e2 e3)
    clear e1 e2 e3 h1
    go_wp2
    go_ret
    rw [HE.out.1, HE.out.2.1, HE.out.2.2]
    exact ⟨rfl, HQ.out _ HB4.out⟩
  · have hov : ov = false := by
      rw [Bool.eq_false_iff]
      intro e
      exact HO.out.1 e h1
    rcases hc with ⟨hbad, e1, e2, e3⟩ | ⟨hgood, hc⟩
    · have HE : Hid _ := And.intro e1 (And.intro e2 e3)
      have HBD : Hid _ := hbad
      clear e1 e2 e3 h1 hbad
      by_cases i1 : id < 0
      · go_wp2
        go_ret
        rw [HE.out.1, HE.out.2.1, HE.out.2.2]
        exact ⟨rfl, HQ.out _ HB4.out⟩
      · by_cases i2 : 65535 < id
        · go_wp2
          go_ret
          rw [HE.out.1, HE.out.2.1, HE.out.2.2]
          exact ⟨rfl, HQ.out _ HB4.out⟩
        · by_cases i3 : fix.size = 4
          · have e3 : ((fix.size : Int) != 4) = false := by rw [bne_eq_false_iff_eq]; omega
            have hcf : cf = false := by
              rw [Bool.eq_false_iff]
              intro e
              exact HBD.out ⟨by omega, by omega, i3, HCF.out.1 e⟩
            clear i3
            go_wp2
            go_ret
            rw [HE.out.1, HE.out.2.1, HE.out.2.2]
            exact ⟨rfl, HQ.out _ HB4.out⟩
          · have e3 : ((fix.size : Int) != 4) = true := by rw [bne_iff_ne]; omega
            clear i3
            go_wp2
            go_ret
            rw [HE.out.1, HE.out.2.1, HE.out.2.2]
            exact ⟨rfl, HQ.out _ HB4.out⟩
    · exact absurd hgood HBD0.out
set_option maxRecDepth 100000 in
set_option maxHeartbeats 8000000 in
theorem rcreate_good (B g gs gc num : Nat) (fl : Bool) (sh : Value) (hs : List Rh) (S : Sto) (R : RSt) (gp : Nat) (H : Nat → Hd) (I : Nat) (key fix : ByteArray) (s a m : Nat) (r : Int) (S' : Sto) (H' : Nat → Hd) (hgd : 0 ≤ (I : Int) ∧ (I : Int) ≤ 65535 ∧ fix.size = 4 ∧ CfgOk s a m) (hP : createP gp S H I key fix s a m r S' H') (hrel : RelH hs H) (hov : overB fl R.user num = true ↔ S.tab ≠ some gp) (hwr : R.writes < 4611686018427387904) (w : World) (hBw : B ≤ w.heap.size) (t : TabR w B g gs num fl sh hs) (hS : StoR w gs gc S R) :
    Calls Tryz.prog 66 #[ptr g, .int .i64 I, .string key, .string fix, .agg #[.int .i64 s, .int .i64 a, .int .i64 m]] w fun e w' => e = .returned (.int .i64 r) ∧ RPs w w' B g gs gc num sh R gp S' H' := by
  have HOV : Hid _ := hov
  have HGD0 : Hid _ := hgd
  clear hgd
  unfold createP at hP
  simp only [Int.toNat_natCast] at hP
  have h1 := fun w t h => rover_any B g gs gc num fl sh hs S R w t h
  have h2 := fun w => rright_any s a m w
  have h3 := fun w t => rfree_any B g gs num fl sh hs hrel.le w t
  have h4 := fun w t => rfind_any B g gs num fl sh hs I hrel.le w t
  have h5 := fun w => rAlg_any key w
  have HQ : Hid (∀ w', Below w.heap.size w w' → RPs w w' B g gs gc num sh R gp S H) := fun w' hb => RPs.same t hS hrel hov hb
  unfold ptr at h1 h3 h4 ⊢
  have H1 : Hid _ := h1
  have H2 : Hid _ := h2
  have H3 : Hid _ := h3
  have H4 : Hid _ := h4
  have H5 : Hid _ := h5
  have HT : Hid _ := t
  have HS : Hid _ := hS
  have HR : Hid _ := hrel
  have HO : Hid _ := hov
  have HW : Hid _ := hwr
  have HP : Hid _ := hP
  have HB : Hid _ := hBw
  have B0 := (Below.refl w.heap.size w).alloc (Nat.le_refl _) (.cells #[.int .i64 s, .int .i64 a, .int .i64 m] 50)
  have r0 : (w.alloc (.cells #[.int .i64 s, .int .i64 a, .int .i64 m] 50)).heap[w.heap.size]? = some (.cells #[.int .i64 s, .int .i64 a, .int .i64 m] 50 (0, 0)) := heap_of_new _ _ _ rfl
  have HB0 : Hid _ := B0
  have HR0 : Hid _ := r0
  clear h1 h2 h3 h4 h5 t hS hrel hov hwr hP hBw B0 r0
  generalize overB fl R.user num = ov at H1 HO
  have hcfi := cfgB_iff s a m
  have HCF : Hid _ := hcfi
  clear hcfi
  generalize cfgB s a m = cf at H2 HCF
  go_enter Tryz.func66, Tryz.ntmps66
  go_wp2_with fail
  refine (H1.out _ (HT.out.below HB0.out) (HS.out.below HB0.out)).mono ?_
  rintro e w1 ⟨rfl, b1⟩
  have B1 := HB0.out.trans (b1.mono (by simp))
  have r1 : w1.heap[w.heap.size]? = some (.cells #[.int .i64 s, .int .i64 a, .int .i64 m] 50 (0, 0)) := by rw [b1.block _ (by simp)]; exact HR0.out
  have d0 : w1.cell? ⟨w.heap.size, 0, none⟩ = some (.int .i64 s) := by rw [cell_of_row _ _ 0 _ _ _ r1]; rfl
  have d1 : w1.cell? ⟨w.heap.size, 1, none⟩ = some (.int .i64 a) := by rw [cell_of_row _ _ 1 _ _ _ r1]; rfl
  have d2 : w1.cell? ⟨w.heap.size, 2, none⟩ = some (.int .i64 m) := by rw [cell_of_row _ _ 2 _ _ _ r1]; rfl
  clear b1
  go_wp2_with fail
  refine (H2.out _).mono ?_
  rintro e w2 ⟨rfl, b2⟩
  have B2 := B1.trans (b2.mono B1.size)
  have r2 : w2.heap[w.heap.size]? = some (.cells #[.int .i64 s, .int .i64 a, .int .i64 m] 50 (0, 0)) := by rw [b2.block _ (heap_lt r1)]; exact r1
  clear b2 r1 B1 d0 d1 d2
  go_wp2_with fail
  refine (H3.out _ (HT.out.below B2)).mono ?_
  rintro e w3 ⟨⟨at', hat, rfl⟩, hw3⟩
  have HW3 : Hid _ := hw3
  clear hw3
  go_wp2_with fail
  refine (H4.out _ (by rw [HW3.out]; exact HT.out.below B2)).mono ?_
  rintro e w4 ⟨⟨there, hth, rfl⟩, hw4⟩
  have B4 : Below w.heap.size w w4 := by rw [hw4, HW3.out]; exact B2
  have r4 : w4.heap[w.heap.size]? = some (.cells #[.int .i64 s, .int .i64 a, .int .i64 m] 50 (0, 0)) := by rw [hw4, HW3.out]; exact r2
  have HFR : Hid _ := HR.out.free hat
  have HFI : Hid _ := HR.out.find hth
  clear hw4 hat hth B2 r2 HW3
  have HB4 : Hid _ := B4
  have HR4 : Hid _ := r4
  clear B4 r4
  rcases HP.out with ⟨h1, e1, e2, e3⟩ | ⟨h1, hc⟩
  · have hov : ov = true := HO.out.2 h1
    have HE : Hid _ := And.intro e1 (And.intro e2 e3)
    clear e1 e2 e3 h1
    go_wp2
    go_ret
    rw [HE.out.1, HE.out.2.1, HE.out.2.2]
    exact ⟨rfl, HQ.out _ HB4.out⟩
  · have hov : ov = false := by
      rw [Bool.eq_false_iff]
      intro e
      exact HO.out.1 e h1
    rcases hc with ⟨hbad, e1, e2, e3⟩ | ⟨hgood, hc⟩
    · exact absurd HGD0.out hbad
    · obtain ⟨i1, i2, i3, i4⟩ := hgood
      have hcf : cf = true := HCF.out.2 i4
      have j1 : ¬ ((I : Int) < 0) := by omega
      have j2 : ¬ (65535 < (I : Int)) := by omega
      have e3 : ((fix.size : Int) != 4) = false := by rw [bne_eq_false_iff_eq]; omega
      have HGD : Hid _ := And.intro i1 (And.intro i2 (And.intro i3 i4))
      clear i1 i2 i3 i4 h1
      go_wp2_with fail
      refine (H5.out _).mono ?_
      rintro e w5 ⟨rfl, hw5⟩
      rw [hw5]
      clear hw5 w5
      rcases hc with ⟨hk, e1, e2, e3'⟩ | ⟨A, a1, a2, a3, hc⟩
      · have HE : Hid _ := And.intro e1 (And.intro e2 e3')
        have ea : (algN key.size == 0) = true := by
          rw [beq_iff_eq]
          unfold KeyLen at hk
          unfold algN
          rw [if_neg (by omega), if_neg (by omega), if_neg (by omega)]
        clear e1 e2 e3' hk
        go_wp2
        go_ret
        rw [HE.out.1, HE.out.2.1, HE.out.2.2]
        exact ⟨rfl, HQ.out _ HB4.out⟩
      · have hal : algN key.size = A := by
          unfold algN
          rcases (by omega : A = 1 ∨ A = 2 ∨ A = 3) with rfl | rfl | rfl
          · rw [if_pos (by omega)]; rfl
          · rw [if_neg (by omega), if_pos (by omega)]; rfl
          · rw [if_neg (by omega), if_neg (by omega), if_pos (by omega)]; rfl
        have ea : (algN key.size == 0) = false := by rw [hal, beq_eq_false_iff_ne]; omega
        have HA : Hid _ := And.intro a1 (And.intro a2 (And.intro a3 hal))
        clear a3 hal
        rcases hc with ⟨⟨q, q8, hq⟩, e1, e2, e3'⟩ | ⟨hno, hc⟩
        · have HE : Hid _ := And.intro e1 (And.intro e2 e3')
          have hth : 0 ≤ there := by
            rcases HFI.out with ⟨k, x, hx, _⟩ | ⟨_, hn⟩
            · omega
            · exact absurd hq (hn q q8)
          clear e1 e2 e3' hq
          go_wp2
          go_ret
          rw [HE.out.1, HE.out.2.1, HE.out.2.2]
          exact ⟨rfl, HQ.out _ HB4.out⟩
        · have hth : there = -1 := by
            rcases HFI.out with ⟨k, x, hx, _, p8, _, hh, _⟩ | ⟨hx, _⟩
            · exact absurd hh (hno _ p8)
            · exact hx
          have hth2 : ¬ (0 ≤ there) := by omega
          rcases hc with ⟨hfull, e1, e2, e3'⟩ | ⟨i, i8, h0, hmin, hput⟩
          · have HE : Hid _ := And.intro e1 (And.intro e2 e3')
            have hat : at' < 0 := by
              rcases HFR.out with ⟨i, i8, _, h0, _⟩ | ⟨hx, _⟩
              · exact absurd h0 (hfull i i8)
              · omega
            clear e1 e2 e3' hfull hth
            go_wp2
            go_ret
            rw [HE.out.1, HE.out.2.1, HE.out.2.2]
            exact ⟨rfl, HQ.out _ HB4.out⟩
          · have hat : at' = i := by
              rcases HFR.out with ⟨i', i8', hx, h0', hm'⟩ | ⟨_, hf⟩
              · rcases (by omega : i' < i ∨ i' = i ∨ i < i') with h | h | h
                · exact absurd h0' (hmin i' h)
                · omega
                · exact absurd h0 (hm' i h)
              · exact absurd h0 (hf i i8)
            have hat2 : ¬ ((i : Int) < 0) := by omega
            have HPT : Hid _ := hput
            have HNO : Hid _ := And.intro hno h0
            have HAT : Hid _ := hat
            clear hput hno h0 hmin hat hth
            rw [HAT.out]
            obtain ⟨d0, d1, d2⟩ : w4.cell? ⟨w.heap.size, 0, none⟩ = some (.int .i64 s) ∧ w4.cell? ⟨w.heap.size, 1, none⟩ = some (.int .i64 a) ∧ w4.cell? ⟨w.heap.size, 2, none⟩ = some (.int .i64 m) := by
              refine ⟨?_, ?_, ?_⟩
              · rw [cell_of_row _ _ 0 _ _ _ HR4.out]; rfl
              · rw [cell_of_row _ _ 1 _ _ _ HR4.out]; rfl
              · rw [cell_of_row _ _ 2 _ _ _ HR4.out]; rfl
            go_wp2_with fail
            refine (H5.out _).mono ?_
            rintro e w5 ⟨rfl, hw5⟩
            rw [hw5, HA.out.2.2.2]
            clear hw5 w5
            have t4 := HT.out.below HB4.out
            have s4 := HS.out.below HB4.out
            have hy : HRel (⟨A, I, fix, s, a, m, 0, false, key, i, 0⟩ : Rh) ⟨⟨1, A, I, fix, s, a, m, 0, key⟩, 0⟩ := ⟨rfl, rfl, rfl, rfl, rfl, rfl, rfl, rfl, fun _ => rfl, rfl, by show key.size ≤ 1000; have := HA.out.2.2.1; omega, ⟨.inl rfl, ⟨a1, a2⟩, by show I ≤ 65535; have := HGD.out.2.1; omega, HGD.out.2.2.1, HGD.out.2.2.2, Nat.zero_le _, by simp [HA.out.2.2.1]⟩, Nat.zero_le _⟩
            have B5 := (Below.refl w4.heap.size w4).alloc (Nat.le_refl _) (.cells #[.int .i64 A, .int .i64 I, .string fix, .int .i64 s, .int .i64 a, .int .i64 m, .int .i64 0, .bool false, .string key, .int .i64 i, .int .i64 0] 173)
            have hly : Calls Tryz.prog 106 #[.pointer (some ⟨g, 0, none⟩), .agg #[.int .i64 A, .int .i64 I, .string fix, .int .i64 s, .int .i64 a, .int .i64 m, .int .i64 0, .bool false, .string key, .int .i64 i, .int .i64 0]] (w4.alloc (.cells #[.int .i64 A, .int .i64 I, .string fix, .int .i64 s, .int .i64 a, .int .i64 m, .int .i64 0, .bool false, .string key, .int .i64 i, .int .i64 0] 173)) _ := rlay_any B g gs gc num fl sh hs S R (⟨A, I, fix, s, a, m, 0, false, key, i, 0⟩ : Rh) _ hy (show i < 8 from i8) HW.out _ (t4.below B5) (s4.below B5)
            have r5 : (w4.alloc (.cells #[.int .i64 A, .int .i64 I, .string fix, .int .i64 s, .int .i64 a, .int .i64 m, .int .i64 0, .bool false, .string key, .int .i64 i, .int .i64 0] 173)).heap[w4.heap.size]? = some (.cells #[.int .i64 A, .int .i64 I, .string fix, .int .i64 s, .int .i64 a, .int .i64 m, .int .i64 0, .bool false, .string key, .int .i64 i, .int .i64 0] 173 (0, 0)) := heap_of_new _ _ _ rfl
            have HLY : Hid _ := hly
            have HT4 : Hid _ := And.intro t4 (And.intro s4 (And.intro hy r5))
            clear hly t4 s4 hy r5 B5 d0 d1 d2
            go_wp2_with fail
            refine Calls.mono HLY.out ?_
            rintro e w6 ⟨⟨hl, rfl, t6⟩ | ⟨hl, rfl, t6⟩, s6, f6⟩
            · rcases HPT.out with ⟨_, e1, e2, e3'⟩ | ⟨hl', _⟩
              · have HE : Hid _ := And.intro e1 (And.intro e2 e3')
                have hq : RPs w w6 B g gs gc num sh R gp { wroteM S i (cellT ⟨1, A, I, fix, s, a, m, 0, key⟩) with tab := none } H := by
                  have f7 : Fr [g, gs, gc] w w6 := ((Fr.of_below _ HB4.out (Nat.le_refl _)).alloc _).trans f6
                  exact RPs.down t6 s6 HR.out f7
                have HQ2 : Hid _ := hq
                clear hq t6 s6 f6 e1 e2 e3'
                go_wp2
                go_ret
                rw [HE.out.1, HE.out.2.1, HE.out.2.2]
                exact ⟨rfl, HQ2.out⟩
              · exact absurd hl hl'
            · rcases HPT.out with ⟨hl', _⟩ | ⟨_, e1, e2, e3'⟩
              · exact absurd hl' hl
              have HE : Hid _ := And.intro e1 (And.intro e2 e3')
              clear e1 e2 e3'
              obtain ⟨gb, hgb⟩ : ∃ gb, gb = w4.heap.size := ⟨_, rfl⟩
              have lg := HT4.out.1.lt
              have lgs := Row.lt HT4.out.2.1.r
              have lgc := Row.lt HT4.out.2.1.c
              have y6 := f6.size
              have l6 : gb < w6.heap.size := by simp at y6; omega
              have lsh : ∀ b, sh.ownBlock = some b → b < w4.heap.size := fun b hb => (World.ownsRow.lt HT4.out.1.o b hb).2
              have r6 : w6.heap[gb]? = some (.cells #[.int .i64 A, .int .i64 I, .string fix, .int .i64 s, .int .i64 a, .int .i64 m, .int .i64 0, .bool false, .string key, .int .i64 i, .int .i64 0] 173 (0, 0)) := by rw [hgb]; exact keepRow f6 HT4.out.2.2.2 (by simp; omega)
              have hz := info_parts' info173f
              obtain ⟨i0, hi, hz0, hz1, hz2⟩ := hz
              have X0 : w6.drew.heap[gb]? = some (.cells #[.int .i64 A, .int .i64 I, .string fix, .int .i64 s, .int .i64 a, .int .i64 m, .int .i64 0, .bool false, .string key, .int .i64 i, .int .i64 0] 173 (0, 0)) := r6
              have XA : ((w6.alloc (.cells #[.int .i64 A, .int .i64 I, .string fix, .int .i64 s, .int .i64 a, .int .i64 m, .int .i64 0, .bool false, .string key, .int .i64 i, .int .i64 0] 173)).drew).heap[gb]? = some (.cells #[.int .i64 A, .int .i64 I, .string fix, .int .i64 s, .int .i64 a, .int .i64 m, .int .i64 0, .bool false, .string key, .int .i64 i, .int .i64 0] 173 (0, 0)) := keep_alloc _ r6
              have A3 : Hid (w6.drew.cell? ⟨g, 3, none⟩ = some sh) := (cells4' t6.r).2.2.2
              have A3A : Hid ((w6.alloc (.cells #[.int .i64 A, .int .i64 I, .string fix, .int .i64 s, .int .i64 a, .int .i64 m, .int .i64 0, .bool false, .string key, .int .i64 i, .int .i64 0] 173)).drew.cell? ⟨g, 3, none⟩ = some sh) := (cells4' (keep_alloc (.cells #[.int .i64 A, .int .i64 I, .string fix, .int .i64 s, .int .i64 a, .int .i64 m, .int .i64 0, .bool false, .string key, .int .i64 i, .int .i64 0] 173) t6.r)).2.2.2
              have HOW : Hid ((w6.alloc (.cells #[.int .i64 A, .int .i64 I, .string fix, .int .i64 s, .int .i64 a, .int .i64 m, .int .i64 0, .bool false, .string key, .int .i64 i, .int .i64 0] 173)).drew.ownsRow B 173 11 sh hs.length (rhL hs)) := World.ownsRow.alloc t6.o _
              have HNB : Hid ((w6.alloc (.cells #[.int .i64 A, .int .i64 I, .string fix, .int .i64 s, .int .i64 a, .int .i64 m, .int .i64 0, .bool false, .string key, .int .i64 i, .int .i64 0] 173)).drew.heap[w6.heap.size]? = some (.cells #[.int .i64 A, .int .i64 I, .string fix, .int .i64 s, .int .i64 a, .int .i64 m, .int .i64 0, .bool false, .string key, .int .i64 i, .int .i64 0] 173 (0, 0))) := heap_of_new w6 _ _ rfl
              have HLN : Hid (hs.length ≤ 8) := HR.out.le
              have HBB : Hid (B ≤ (w6.alloc (.cells #[.int .i64 A, .int .i64 I, .string fix, .int .i64 s, .int .i64 a, .int .i64 m, .int .i64 0, .bool false, .string key, .int .i64 i, .int .i64 0] 173)).drew.heap.size) := by
                have e1 := HB.out
                have e2 := HB4.out.size
                have e3 : (w6.alloc (.cells #[.int .i64 A, .int .i64 I, .string fix, .int .i64 s, .int .i64 a, .int .i64 m, .int .i64 0, .bool false, .string key, .int .i64 i, .int .i64 0] 173)).drew.heap.size = w6.heap.size + 1 := size_alloc w6 _
                show B ≤ _
                rw [e3]
                omega
              have HSZ : Hid ((w6.alloc (.cells #[.int .i64 A, .int .i64 I, .string fix, .int .i64 s, .int .i64 a, .int .i64 m, .int .i64 0, .bool false, .string key, .int .i64 i, .int .i64 0] 173)).drew.heap.size = w6.heap.size + 1) := size_alloc w6 _
              have HGB : Hid (gb ≠ g) := by show gb ≠ g; omega
              have HGR : Hid (∀ gn capn wn, (wn.ownsRow B 173 11 (.slice (some ⟨gn, 0, none⟩) (hs.length + 1) capn) (hs.length + 1) (rhL hs ++ (rhA (⟨A, I, fix, s, a, m, 0, false, key, i, 0⟩ : Rh)).toList) ∧ (w6.alloc (.cells #[.int .i64 A, .int .i64 I, .string fix, .int .i64 s, .int .i64 a, .int .i64 m, .int .i64 0, .bool false, .string key, .int .i64 i, .int .i64 0] 173)).drew.grownBy wn sh.ownBlock ∧ (sh.ownBlock = some gn ∨ gn = w6.heap.size + 1) ∧ gn < wn.heap.size) → wn.heap[gb]? = some (.cells #[.int .i64 A, .int .i64 I, .string fix, .int .i64 s, .int .i64 a, .int .i64 m, .int .i64 0, .bool false, .string key, .int .i64 i, .int .i64 0] 173 (0, 0)) ∧ wn.heap[g]? = some (.cells #[ptr gs, .int .i64 num, .bool fl, sh] 171 (0, 0))) := by
                rintro gn capn wn ⟨_, hgr, _⟩
                have F9 : Fr sh.ownBlock.toList _ wn := Fr.of_grown hgr (by simp)
                refine ⟨keepRow F9 XA ?_, keepRow F9 (show ((w6.alloc (.cells #[.int .i64 A, .int .i64 I, .string fix, .int .i64 s, .int .i64 a, .int .i64 m, .int .i64 0, .bool false, .string key, .int .i64 i, .int .i64 0] 173)).drew).heap[g]? = _ from keep_alloc _ t6.r) ?_⟩
                · intro hm
                  have := lsh gb (by simpa using hm)
                  omega
                · intro hm
                  obtain ⟨cur, hcur⟩ := owns_row t6.o (show sh.ownBlock = some g by simpa using hm)
                  exact ne_rows t6.r hcur (by decide) rfl
              have HAP : Hid (∀ gn capn wn, (wn.ownsRow B 173 11 (.slice (some ⟨gn, 0, none⟩) (hs.length + 1) capn) (hs.length + 1) (rhL hs ++ (rhA (⟨A, I, fix, s, a, m, 0, false, key, i, 0⟩ : Rh)).toList) ∧ (w6.alloc (.cells #[.int .i64 A, .int .i64 I, .string fix, .int .i64 s, .int .i64 a, .int .i64 m, .int .i64 0, .bool false, .string key, .int .i64 i, .int .i64 0] 173)).drew.grownBy wn sh.ownBlock ∧ (sh.ownBlock = some gn ∨ gn = w6.heap.size + 1) ∧ gn < wn.heap.size) → RPs w (wn.setCell ⟨g, 3, none⟩ (.slice (some ⟨gn, 0, none⟩) (hs.length + 1) capn)) B g gs gc num sh R gp (wroteM S i (cellT ⟨1, A, I, fix, s, a, m, 0, key⟩)) (upd H i ⟨1, A, I, fix, s, a, m, 0, key⟩)) := by
                rintro gn capn wn hG
                exact rappend_post B g gs gc num fl sh hs S R gp H (⟨A, I, fix, s, a, m, 0, false, key, i, 0⟩ : Rh) ⟨1, A, I, fix, s, a, m, 0, key⟩ w w4 w6 _ HB4.out f6 t6 s6 HT4.out.1 HR.out HOV.out HT4.out.2.2.1 i8 HNO.out.2 HNO.out.1 gn capn wn _ hG
              clear r6 lg lgs lgc y6 l6 lsh s6 f6 t6 HT4 HNO HR HO HB4 HOV
              subst hgb
              go_wp2_with fail
              refine wp_region_held_drew (S := fun W' => W'.heap[w4.heap.size]? = some (.cells #[.int .i64 A, .int .i64 I, .string fix, .int .i64 s, .int .i64 a, .int .i64 m, .int .i64 0, .bool false, .string key, .int .i64 i, .int .i64 0] 173 (0, 0))) (by kernel_rfl) X0 (fun hHeld => ?_)
              refine tk 0 ?v1 ?y1 ?r1
              case y1 => (intro W' hW; go_simp; try with_reducible rfl)
              try simp only [bitvec_to_nat]
              refine tk 1 ?v2 ?y2 ?r2
              case y2 => (intro W' hW; go_simp; try with_reducible rfl)
              try simp only [bitvec_to_nat]
              refine tk 2 ?v3 ?y3 ?r3
              case y3 => (intro W' hW; go_simp; try with_reducible rfl)
              try simp only [bitvec_to_nat]
              refine tk 3 ?v4 ?y4 ?r4
              case y4 => (intro W' hW; go_simp; try with_reducible rfl)
              try simp only [bitvec_to_nat]
              refine tk 5 ?v5 ?y5 ?r5
              case y5 => (intro W' hW; have hb : blk W' w4.heap.size = _ := hW; go_simp; try with_reducible rfl)
              try simp only [bitvec_to_nat]
              refine wpAnyH_ready (rs := [4, 6]) (by kernel_rfl) (by simp) ?_
              refine AllReadyH.cons rfl (fun K hK => ?_) (AllReadyH.cons rfl (fun K hK => ?_) AllReadyH.nil)
              · have a3 := A3.out
                go_simp
                refine hK.out _ _ X0 (fun hHeld => ?_)
                clear hK K
                refine wpAnyH_ready (rs := [6]) (by kernel_rfl) (by simp) ?_
                refine AllReadyH.cons rfl (fun K hK => ?_) AllReadyH.nil
                go_simp
                refine hK.out _ _ XA (fun hHeld => ?_)
                clear hK K
                refine wpAnyH_ready (rs := [7]) (by kernel_rfl) (by simp) ?_
                refine AllReadyH.cons rfl (fun K hK => ?_) AllReadyH.nil
                refine step_append_lies _ rfl _ _ 169 rfl B 173 i0 _ 11 104 Tryz.underlying169 hi hz0 hz1 hz2 rfl (by decide) _ hs.length (rhL hs) rfl HOW.out ⟨w6.heap.size, 0, none⟩ 1 1 (rhA (⟨A, I, fix, s, a, m, 0, false, key, i, 0⟩ : Rh)).toList rfl rfl (World.news_of_block HNB.out) (rhA_one _) (by omega) (by have := HLN.out; unfold maxLen; omega) (by have := HLN.out; omega) HBB.out (w6.heap.size + 1) HSZ.out ?_
                intro gn capn wn hown hgrow hat hltn
                have HG : Hid _ := And.intro hown (And.intro hgrow (And.intro hat hltn))
                clear hown hgrow hat hltn
                have xn := (HGR.out _ _ _ HG.out).1
                have tn := (HGR.out _ _ _ HG.out).2
                have fz := frozen_of_row _ _ 3 _ _ tn
                have n3 := (cells4' tn).2.2.2
                refine hK.out _ _ xn (fun hHeld => ?_)
                clear hK K
                refine tk 8 ?v6 ?y6 ?r6
                case y6 => (intro W' hW; go_simp; try with_reducible rfl)
                try simp only [bitvec_to_nat]
                refine tk 9 ?v7 ?y7 ?r7
                case y7 => (intro W' hW; go_simp; try with_reducible rfl)
                try simp only [bitvec_to_nat]
                refine wpAnyH_ready (rs := [10]) (by kernel_rfl) (by simp) ?_
                refine AllReadyH.cons rfl (fun K hK => ?_) AllReadyH.nil
                go_simp
                refine hK.out _ _ (by rw [heap_skip _ _ _ _ _ HGB.out]; exact xn) (fun hHeld => ?_)
                clear hK K
                refine wpAnyH_done (by kernel_rfl) ?_ _
                have HFin := HAP.out _ _ _ HG.out
                clear HG xn tn fz n3
                go_wp2
                go_ret
                rw [HE.out.1, HE.out.2.1, HE.out.2.2]
                exact ⟨rfl, HFin⟩
              · go_simp
                refine hK.out _ _ XA (fun hHeld => ?_)
                clear hK K
                refine wpAnyH_ready (rs := [4]) (by kernel_rfl) (by simp) ?_
                refine AllReadyH.cons rfl (fun K hK => ?_) AllReadyH.nil
                have a3 := A3A.out
                go_simp
                refine hK.out _ _ XA (fun hHeld => ?_)
                clear hK K
                refine wpAnyH_ready (rs := [7]) (by kernel_rfl) (by simp) ?_
                refine AllReadyH.cons rfl (fun K hK => ?_) AllReadyH.nil
                refine step_append_lies _ rfl _ _ 169 rfl B 173 i0 _ 11 104 Tryz.underlying169 hi hz0 hz1 hz2 rfl (by decide) _ hs.length (rhL hs) rfl HOW.out ⟨w6.heap.size, 0, none⟩ 1 1 (rhA (⟨A, I, fix, s, a, m, 0, false, key, i, 0⟩ : Rh)).toList rfl rfl (World.news_of_block HNB.out) (rhA_one _) (by omega) (by have := HLN.out; unfold maxLen; omega) (by have := HLN.out; omega) HBB.out (w6.heap.size + 1) HSZ.out ?_
                intro gn capn wn hown hgrow hat hltn
                have HG : Hid _ := And.intro hown (And.intro hgrow (And.intro hat hltn))
                clear hown hgrow hat hltn
                have xn := (HGR.out _ _ _ HG.out).1
                have tn := (HGR.out _ _ _ HG.out).2
                have fz := frozen_of_row _ _ 3 _ _ tn
                have n3 := (cells4' tn).2.2.2
                refine hK.out _ _ xn (fun hHeld => ?_)
                clear hK K
                refine tk 8 ?v8 ?y8 ?r8
                case y8 => (intro W' hW; go_simp; try with_reducible rfl)
                try simp only [bitvec_to_nat]
                refine tk 9 ?v9 ?y9 ?r9
                case y9 => (intro W' hW; go_simp; try with_reducible rfl)
                try simp only [bitvec_to_nat]
                refine wpAnyH_ready (rs := [10]) (by kernel_rfl) (by simp) ?_
                refine AllReadyH.cons rfl (fun K hK => ?_) AllReadyH.nil
                go_simp
                refine hK.out _ _ (by rw [heap_skip _ _ _ _ _ HGB.out]; exact xn) (fun hHeld => ?_)
                clear hK K
                refine wpAnyH_done (by kernel_rfl) ?_ _
                have HFin := HAP.out _ _ _ HG.out
                clear HG xn tn fz n3
                go_wp2
                go_ret
                rw [HE.out.1, HE.out.2.1, HE.out.2.2]
                exact ⟨rfl, HFin⟩
theorem rcreate_any (B g gs gc num : Nat) (fl : Bool) (sh : Value) (hs : List Rh) (S : Sto) (R : RSt) (gp : Nat) (H : Nat → Hd) (id : Int) (key fix : ByteArray) (cs ca cm r : Int) (S' : Sto) (H' : Nat → Hd) (hP : createP gp S H id key fix cs ca cm r S' H') (hrel : RelH hs H) (hov : overB fl R.user num = true ↔ S.tab ≠ some gp) (hwr : R.writes < 4611686018427387904) (w : World) (hBw : B ≤ w.heap.size) (t : TabR w B g gs num fl sh hs) (hS : StoR w gs gc S R) :
    Calls Tryz.prog 66 #[ptr g, .int .i64 id, .string key, .string fix, .agg #[.int .i64 cs, .int .i64 ca, .int .i64 cm]] w fun e w' => e = .returned (.int .i64 r) ∧ RPs w w' B g gs gc num sh R gp S' H' := by
  by_cases hg : 0 ≤ id ∧ id ≤ 65535 ∧ fix.size = 4 ∧ CfgOk cs ca cm
  · have hg' := hg
    obtain ⟨i1, i2, hf4, ⟨⟨s1, s2⟩, ⟨a1, a2⟩, ⟨m1, m2⟩⟩⟩ := hg'
    obtain ⟨I, rfl⟩ : ∃ I : Nat, id = I := ⟨id.toNat, by omega⟩
    obtain ⟨s, rfl⟩ : ∃ I : Nat, cs = I := ⟨cs.toNat, by omega⟩
    obtain ⟨a, rfl⟩ : ∃ I : Nat, ca = I := ⟨ca.toNat, by omega⟩
    obtain ⟨m, rfl⟩ : ∃ I : Nat, cm = I := ⟨cm.toNat, by omega⟩
    exact rcreate_good B g gs gc num fl sh hs S R gp H I key fix s a m r S' H' hg hP hrel hov hwr w hBw t hS
  · exact rcreate_bad B g gs gc num fl sh hs S R gp H id key fix cs ca cm r S' H' hg hP hrel hov w t hS
end Go.Proofs.YtgalgjmhdbncbaaGreat
namespace Go.Proofs.YtgalgjmhdbncbaaGreat
open Go.RowKit

set_option maxRecDepth 100000 in
set_option maxHeartbeats 1000000 in
theorem rOpen_key (key n m p : ByteArray) (hk : ¬ KeyLen key.size) (w : World) :
    Calls Tryz.prog 96 #[.string key, .string n, .string m, .string p] w fun e w' => e = .returned (.tuple #[.string ⟨#[]⟩, .int .i64 2]) ∧ Below w.heap.size w w' := by
  have HK : Hid _ := not_key hk
  clear hk
  go_enter Tryz.func96, Tryz.ntmps96
  go_wp2_with fail
  refine (rAlg_no key HK.out.1 HK.out.2.1 HK.out.2.2 _).mono ?_
  rintro e w1 ⟨rfl, hw⟩
  subst hw
  go_wp2
  go_ret2
  exact ⟨rfl, Below.refl _ _⟩
set_option maxRecDepth 100000 in
set_option maxHeartbeats 1000000 in
theorem rOpen_nonce (key n m p : ByteArray) (hk : KeyLen key.size) (hn : ¬ NonceLen n.size) (hz : n.size ≤ maxLen) (w : World) :
    Calls Tryz.prog 96 #[.string key, .string n, .string m, .string p] w fun e w' => e = .returned (.tuple #[.string ⟨#[]⟩, .int .i64 3]) ∧ Below w.heap.size w w' := by
  have HK : Hid _ := hk
  unfold maxLen at hz
  unfold NonceLen at hn
  clear hk
  by_cases h1 : n.size < 1
  · clear hn
    go_enter Tryz.func96, Tryz.ntmps96
    go_wp2_with fail
    refine (rAlg_yes key HK.out _).mono ?_
    rintro e w1 ⟨⟨a, ⟨ha, _⟩, rfl⟩, hw⟩
    subst hw
    have ha' : ((a : Int) == 0) = false := by rw [beq_eq_false_iff_ne]; omega
    go_wp2
    go_ret2
    exact ⟨rfl, Below.refl _ _⟩
  · have h2 : 40 < n.size := by omega
    clear hn
    go_enter Tryz.func96, Tryz.ntmps96
    go_wp2_with fail
    refine (rAlg_yes key HK.out _).mono ?_
    rintro e w1 ⟨⟨a, ⟨ha, _⟩, rfl⟩, hw⟩
    subst hw
    have ha' : ((a : Int) == 0) = false := by rw [beq_eq_false_iff_ne]; omega
    go_wp2
    go_ret2
    exact ⟨rfl, Below.refl _ _⟩
set_option maxRecDepth 100000 in
set_option maxHeartbeats 1000000 in
theorem rOpen_long (key n m p : ByteArray) (hk : KeyLen key.size) (hn : NonceLen n.size) (hl : 200 < m.size ∨ 216 < p.size) (hm : m.size ≤ maxLen) (hp : p.size ≤ maxLen) (w : World) :
    Calls Tryz.prog 96 #[.string key, .string n, .string m, .string p] w fun e w' => e = .returned (.tuple #[.string ⟨#[]⟩, .int .i64 4]) ∧ Below w.heap.size w w' := by
  have HK : Hid _ := hk
  obtain ⟨hn1, hn2⟩ := hn
  unfold maxLen at hm hp
  clear hk
  by_cases h1 : 200 < m.size
  · clear hl
    go_enter Tryz.func96, Tryz.ntmps96
    go_wp2_with fail
    refine (rAlg_yes key HK.out _).mono ?_
    rintro e w1 ⟨⟨a, ⟨ha, _⟩, rfl⟩, hw⟩
    subst hw
    have ha' : ((a : Int) == 0) = false := by rw [beq_eq_false_iff_ne]; omega
    go_wp2
    go_ret2
    exact ⟨rfl, Below.refl _ _⟩
  · have h2 : 216 < p.size := by omega
    clear hl
    go_enter Tryz.func96, Tryz.ntmps96
    go_wp2_with fail
    refine (rAlg_yes key HK.out _).mono ?_
    rintro e w1 ⟨⟨a, ⟨ha, _⟩, rfl⟩, hw⟩
    subst hw
    have ha' : ((a : Int) == 0) = false := by rw [beq_eq_false_iff_ne]; omega
    go_wp2
    go_ret2
    exact ⟨rfl, Below.refl _ _⟩
set_option maxRecDepth 100000 in
set_option maxHeartbeats 1000000 in
theorem rOpen_size (key n m p : ByteArray) (hk : KeyLen key.size) (hn : NonceLen n.size) (hm : m.size ≤ 200) (hp : p.size < 16) (w : World) :
    Calls Tryz.prog 96 #[.string key, .string n, .string m, .string p] w fun e w' => e = .returned (.tuple #[.string ⟨#[]⟩, .int .i64 5]) ∧ Below w.heap.size w w' := by
  have HK : Hid _ := hk
  obtain ⟨hn1, hn2⟩ := hn
  clear hk
  go_enter Tryz.func96, Tryz.ntmps96
  go_wp2_with fail
  refine (rAlg_yes key HK.out _).mono ?_
  rintro e w1 ⟨⟨a, ⟨ha, _⟩, rfl⟩, hw⟩
  subst hw
  have ha' : ((a : Int) == 0) = false := by rw [beq_eq_false_iff_ne]; omega
  go_wp2
  go_ret2
  exact ⟨rfl, Below.refl _ _⟩
set_option maxRecDepth 100000 in
set_option maxHeartbeats 1000000 in
theorem rOpen_mid (key n m p : ByteArray) (hk : KeyLen key.size) (hn : NonceLen n.size) (hm : m.size ≤ 200) (hp : 16 ≤ p.size) (hp2 : p.size ≤ 216) (ok : Bool)
    (hok : ((sealT key n m (maskT key (firstF key n) (p.extract 0 (p.size - 16)))).toList == p.toList) = ok) (w : World) :
    Calls Tryz.prog 96 #[.string key, .string n, .string m, .string p] w fun e w' => e = .returned (if ok = true then .tuple #[.string (maskT key (firstF key n) (p.extract 0 (p.size - 16))), .int .i64 0] else .tuple #[.string ⟨#[]⟩, .int .i64 6]) ∧ Below w.heap.size w w' := by
  have HK : Hid _ := hk
  have HN : Hid _ := hn
  obtain ⟨hn1, hn2⟩ := hn
  obtain ⟨E, hE⟩ : ∃ E, p.size = E + 16 := ⟨p.size - 16, by omega⟩
  rw [show p.size - 16 = E by omega] at hok ⊢
  have hi : ((p.size : Int) - 16) = (E : Int) := by omega
  have hE2 : (E : Int) ≤ (p.size : Int) := by omega
  have hE3 : E ≤ p.size := by omega
  have hcut := cut_size p 0 E hE3
  rw [Nat.sub_zero] at hcut
  have hB : (p.extract 0 E).size ≤ 200 := by omega
  have hms : ∀ b, (maskT key (firstF key n) b).size = b.size := fun b => maskT_size _ _ _
  generalize hbd : p.extract 0 E = Bd at *
  have hst := fun w => stream_ref key (firstF key n) Bd.size HK.out (by omega) w
  rw [hcut] at hst
  have hxm := fun w => rxor_mask key Bd (firstF key n) (by omega) w
  rw [hcut] at hxm
  have HSt : Hid _ := hst
  have HXm : Hid _ := hxm
  have hmB := hms Bd
  clear hk hst hxm hE hms
  generalize hmk : maskT key (firstF key n) Bd = Pl at *
  go_enter Tryz.func96, Tryz.ntmps96
  go_wp2_with fail
  refine (rAlg_yes key HK.out _).mono ?_
  rintro e w1 ⟨⟨a, ⟨ha, _⟩, rfl⟩, hw⟩
  subst hw
  have ha' : ((a : Int) == 0) = false := by rw [beq_eq_false_iff_ne]; omega
  go_wp2_with fail
  refine (first_ref key n HK.out (by omega) _).mono ?_
  rintro e w2 ⟨rfl, b2⟩
  go_wp2_with fail
  refine (HSt.out _).mono ?_
  rintro e w3 ⟨rfl, b3⟩
  go_wp2_with fail
  refine (HXm.out _).mono ?_
  rintro e w4 ⟨rfl, b4⟩
  go_wp2_with fail
  refine (rSeal_ok key n m Pl HK.out HN.out hm (by omega) _).mono ?_
  rintro e w5 ⟨rfl, b5⟩
  have y2 := b2.size
  have y3 := b3.size
  have y4 := b4.size
  have BB := ((b2.trans (b3.mono (by omega))).trans (b4.mono (by omega))).trans (b5.mono (by omega))
  clear b2 b3 b4 b5 y2 y3 y4
  cases ok
  · go_wp2
    go_ret2
    exact ⟨rfl, BB⟩
  · go_wp2
    go_ret2
    exact ⟨rfl, BB⟩
theorem beq_of {a b : ByteArray} (h : a = b) : (a.toList == b.toList) = true := by rw [h]; exact beq_self_eq_true _
theorem beq_not {a b : ByteArray} (h : a ≠ b) : (a.toList == b.toList) = false := by
  rw [beq_eq_false_iff_ne]
  intro e
  rw [ByteArray.toList_eq, ByteArray.toList_eq] at e
  exact h (WideShapes.bytes_inj e)
theorem openBoth (key n m p : ByteArray) (hs : key.size ≤ maxLen) (hn : n.size ≤ maxLen) (hm : m.size ≤ maxLen) (hp : p.size ≤ maxLen) : ∃ (v : ByteArray) (c : Int),
    (∀ w, Calls Tryz.prog 95 #[.string key, .string n, .string m, .string p] w fun e w' => e = .returned (.tuple #[.string v, .int .i64 c]) ∧ Below w.heap.size w w') ∧
    (∀ w, Calls Tryz.prog 96 #[.string key, .string n, .string m, .string p] w fun e w' => e = .returned (.tuple #[.string v, .int .i64 c]) ∧ Below w.heap.size w w') := by
  by_cases hk : KeyLen key.size
  · by_cases h1 : NonceLen n.size
    · by_cases h2 : 200 < m.size ∨ 216 < p.size
      · exact ⟨_, _, fun w => open_long key n m p hs hk h1 h2 hm hp w, fun w => rOpen_long key n m p hk h1 h2 hm hp w⟩
      · by_cases h3 : p.size < 16
        · exact ⟨_, _, fun w => open_size key n m p hs hk h1 (by omega) h3 w, fun w => rOpen_size key n m p hk h1 (by omega) h3 w⟩
        · have ho := sealT_open key n m p (by omega)
          by_cases h4 : str 16 (tagF key (firstF key n) m (p.extract 0 (p.size - 16))) = p.extract (p.size - 16) p.size
          · exact ⟨_, _, fun w => open_yes key n m p hs hk h1 (by omega) (by omega) (by omega) h4 w, fun w => rOpen_mid key n m p hk h1 (by omega) (by omega) (by omega) true (beq_of (ho.2 h4)) w⟩
          · exact ⟨_, _, fun w => open_no key n m p hs hk h1 (by omega) (by omega) (by omega) h4 w, fun w => rOpen_mid key n m p hk h1 (by omega) (by omega) (by omega) false (beq_not (fun e => h4 (ho.1 e))) w⟩
    · exact ⟨_, _, fun w => open_nonce key n m p hs hk h1 hn w, fun w => rOpen_nonce key n m p hk h1 hn w⟩
  · exact ⟨_, _, fun w => open_key key n m p hs hk w, fun w => rOpen_key key n m p hk w⟩
end Go.Proofs.YtgalgjmhdbncbaaGreat
namespace Go.Proofs.YtgalgjmhdbncbaaGreat
open Go.RowKit

theorem str_cut (n k : Nat) (f : Nat → UInt8) (h : k ≤ n) : (str n f).extract 0 k = str k f := by
  apply bytes_ext
  · rw [cut_size _ _ _ (by rw [str_size]; omega), str_size]; omega
  · intro j hj
    rw [cut_size _ _ _ (by rw [str_size]; omega)] at hj
    rw [sf_cut _ _ _ _ (by rw [str_size]; omega) (by omega), sf_str _ _ _ (by omega), sf_str _ _ _ (by omega), Nat.zero_add]
theorem enc_head (A I : Nat) (n b t : ByteArray) (hn : n.size = 12) (hb : b.size ≤ 200) (ht : t.size = 16) : (encT A I n b t).extract 0 20 = headT A I n b := by
  rw [← enc_bytes A I n b t hn hb ht, str_cut _ _ _ (by omega), head_eq]
theorem encT_len (A I : Nat) (n b t : ByteArray) : (encT A I n b t).size = 36 + b.size := str_size _ _
theorem enc_rest (A I : Nat) (n b t : ByteArray) (ht : t.size = 16) : (encT A I n b t).extract 20 (36 + b.size) = b ++ t := by
  have hz := encT_len A I n b t
  apply bytes_ext
  · rw [cut_size _ _ _ (by omega), ByteArray.size_append]; omega
  · intro j hj
    rw [cut_size _ _ _ (by omega)] at hj
    rw [sf_cut _ _ _ _ (by omega) (by omega), sf_append]
    show sf (str (36 + b.size) (recF A I n b t)) (20 + j) = _
    rw [sf_str _ _ _ (by omega)]
    unfold recF
    rw [if_neg (by omega)]
    by_cases h : j < b.size
    · rw [if_pos (by omega), if_pos h, show 20 + j - 20 = j by omega]
    · rw [if_neg (by omega), if_neg h, show 20 + j - 20 - b.size = j - b.size by omega]
theorem head_like (A I : Nat) (n b b' : ByteArray) (h : b.size = b'.size) : headT A I n b = headT A I n b' := by unfold headT e5F; rw [h]
theorem headT_size (A I : Nat) (n b : ByteArray) : (headT A I n b).size = 20 := str_size _ _
theorem cut_join (s : ByteArray) (k : Nat) (h : k ≤ s.size) : s.extract 0 k ++ s.extract k s.size = s := by
  apply bytes_ext
  · rw [ByteArray.size_append, cut_size _ _ _ h, cut_size _ _ _ (Nat.le_refl _)]; omega
  · intro j hj
    rw [ByteArray.size_append, cut_size _ _ _ h, cut_size _ _ _ (Nat.le_refl _)] at hj
    rw [sf_append, cut_size _ _ _ h]
    by_cases e : j < k - 0
    · rw [if_pos e, sf_cut _ _ _ _ h (by omega), Nat.zero_add]
    · rw [if_neg e, sf_cut _ _ _ _ (Nat.le_refl _) (by omega), show k + (j - (k - 0)) = j by omega]
theorem enc_join (A I : Nat) (n b t : ByteArray) (hn : n.size = 12) (hb : b.size ≤ 200) (ht : t.size = 16) : headT A I n b ++ (b ++ t) = encT A I n b t := by
  have h := cut_join (encT A I n b t) 20 (by rw [encT_len]; omega)
  rw [enc_head A I n b t hn hb ht, encT_len, enc_rest A I n b t ht] at h
  exact h
theorem cat_left (a b : ByteArray) : (a ++ b).extract 0 a.size = a := by
  have hz : (a ++ b).size = a.size + b.size := ByteArray.size_append
  apply bytes_ext
  · rw [cut_size _ _ _ (by omega)]; omega
  · intro j hj
    rw [cut_size _ _ _ (by omega)] at hj
    rw [sf_cut _ _ _ _ (by omega) (by omega), sf_append, Nat.zero_add, if_pos (by omega)]
theorem cat_right (a b : ByteArray) : (a ++ b).extract a.size (a.size + b.size) = b := by
  have hz : (a ++ b).size = a.size + b.size := ByteArray.size_append
  apply bytes_ext
  · rw [cut_size _ _ _ (by omega)]; omega
  · intro j hj
    rw [cut_size _ _ _ (by omega)] at hj
    rw [sf_cut _ _ _ _ (by omega) (by omega), sf_append, if_neg (by omega), show a.size + j - a.size = j by omega]
theorem seal_rec (h : Hd) (m p : ByteArray) (hf : h.c.fix.size = 4) (hp : p.size ≤ 200) : headT h.c.alg h.c.id (hnonT h) p ++ sealT h.c.key (hnonT h) (headT h.c.alg h.c.id (hnonT h) p ++ m) p = sealR h m p := by
  unfold sealR sealT
  rw [head_like _ _ _ p (maskT h.c.key (firstF h.c.key (hnonT h)) p) (maskT_size _ _ _).symm]
  exact enc_join _ _ _ _ _ (by unfold hnonT; rw [ByteArray.size_append, hf, numT_size]) (by rw [maskT_size]; exact hp) (str_size _ _)
theorem ropen_rec (key rec m : ByteArray) (hr : badAt rec = none) (hk : KeyLen key.size) (hm : m.size ≤ 180) (w : World) :
    Calls Tryz.prog 96 #[.string key, .string (rN rec), .string (rec.extract 0 20 ++ m), .string (rec.extract 20 rec.size)] w fun e w' => ((tagOk key rec m ∧ e = .returned (.tuple #[.string (maskT key (firstF key (rN rec)) (rB rec)), .int .i64 0])) ∨ (¬ tagOk key rec m ∧ e = .returned (.tuple #[.string ⟨#[]⟩, .int .i64 6]))) ∧ Below w.heap.size w w' := by
  obtain ⟨hz, hR, hE⟩ := bad_none rec hr
  have a4 : (rN rec).size = 12 := hR.n
  have a5 : (rB rec).size ≤ 200 := hR.b
  have a6 : (rT rec).size = 16 := hR.t
  have hE' : encT (rA rec) (rI rec) (rN rec) (rB rec) (rT rec) = rec := hE
  have e0 : rec.extract 0 20 = headT (rA rec) (rI rec) (rN rec) (rB rec) := by
    have := enc_head (rA rec) (rI rec) (rN rec) (rB rec) (rT rec) a4 a5 a6
    rw [hE'] at this; exact this
  have hbz : (rB rec).size = (sf rec 19).toNat := by unfold rB; rw [cut_size _ _ _ (by omega)]; omega
  have e1 : rec.extract 20 rec.size = rB rec ++ rT rec := by
    have := enc_rest (rA rec) (rI rec) (rN rec) (rB rec) (rT rec) a6
    rw [hE', hbz, ← hz] at this; exact this
  rw [e0, e1]
  have pz : (rB rec ++ rT rec).size = (rB rec).size + 16 := by rw [ByteArray.size_append, a6]
  have p0 : (rB rec ++ rT rec).extract 0 ((rB rec ++ rT rec).size - 16) = rB rec := by rw [pz, Nat.add_sub_cancel]; exact cat_left _ _
  have p1 : (rB rec ++ rT rec).extract ((rB rec ++ rT rec).size - 16) (rB rec ++ rT rec).size = rT rec := by
    rw [pz, Nat.add_sub_cancel, ← a6]; exact cat_right _ _
  have hmz : (headT (rA rec) (rI rec) (rN rec) (rB rec) ++ m).size ≤ 200 := by rw [ByteArray.size_append, headT_size]; omega
  have ho := sealT_open key (rN rec) (headT (rA rec) (rI rec) (rN rec) (rB rec) ++ m) (rB rec ++ rT rec) (by omega)
  rw [p0, p1] at ho
  have et : str 16 (sf (rT rec)) = rT rec := str_sf _ _ a6
  have hN : NonceLen (rN rec).size := by unfold NonceLen; omega
  by_cases hT : tagOk key rec m
  · refine Calls.mono (rOpen_mid key (rN rec) _ (rB rec ++ rT rec) hk hN hmz (by omega) (by omega) true (beq_of ?_) w) ?_
    · rw [p0]
      refine ho.2 ?_
      unfold tagOk at hT
      rw [et] at hT; exact hT
    · rintro e w' ⟨rfl, hb⟩
      rw [if_pos rfl, p0]
      exact ⟨.inl ⟨hT, rfl⟩, hb⟩
  · refine Calls.mono (rOpen_mid key (rN rec) _ (rB rec ++ rT rec) hk hN hmz (by omega) (by omega) false (beq_not ?_) w) ?_
    · rw [p0]
      intro e
      apply hT
      unfold tagOk
      rw [et]; exact ho.1 e
    · rintro e w' ⟨rfl, hb⟩
      exact ⟨.inr ⟨hT, rfl⟩, hb⟩
end Go.Proofs.YtgalgjmhdbncbaaGreat
