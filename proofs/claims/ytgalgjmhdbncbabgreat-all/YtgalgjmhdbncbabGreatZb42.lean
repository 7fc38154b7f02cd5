import Derived.Test.YtgalgjmhdbncbabGreatZb00
import Derived.Test.YtgalgjmhdbncbabGreatZb41
import Derived.Deep.AppendLies
namespace Go.Proofs.YtgalgjmhdbncbabGreat
open Go.RowKit
attribute [local go_sem ↓] Go.wp_at_zero Go.wp_at_succ

theorem keep_alloc {w : World} {g : Nat} {cs : Array Value} {t : TypeId} (o : Obj) (h : w.heap[g]? = some (.cells cs t (0, 0))) : (w.alloc o).heap[g]? = some (.cells cs t (0, 0)) := heap_of_old _ _ _ _ (heap_lt h) h
theorem size_alloc (w : World) (o : Obj) : (w.alloc o).heap.size = w.heap.size + 1 := by simp
theorem info173f : (Tryz.prog.info? 113).map (fun i => (i.zero, i.size, i.bytes)) = some (some (.agg zrhA), 11, 104) := by kernel_rfl
def BsS (t : TypeId) (n : Nat) (ps : Array (Nat × Value)) : Sem Value := Instr.buildSlice t n ps
theorem bs169w (ps : Array (Nat × Value)) : Instr.buildSlice 109 1 ps = BsS 109 1 ps := rfl
theorem run_bs169 (v0 v1 v2 v3 v4 v5 v6 v7 v8 v9 v10 : Value) (w : World) : Sem.run Tryz.prog (BsS 109 1 #[(0, .agg #[v0, v1, v2, v3, v4, v5, v6, v7, v8, v9, v10])]) w = .ok (.slice (some ⟨w.heap.size, 0, none⟩) 1 1) (w.alloc (.cells #[v0, v1, v2, v3, v4, v5, v6, v7, v8, v9, v10] 113)) := by kernel_rfl
theorem rappend_post (B g gs gc num : Nat) (fl : Bool) (sh : Value) (hs : List Rh) (S : Sto) (R : RSt) (gp : Nat) (H : Nat → Hd) (x : Rh) (c : Cl) (w w4 w6 : World) (o : Obj) (B4 : Below w.heap.size w w4) (f6 : Fr [g, gs, gc] (w4.alloc o) w6) (t6 : TabR w6 B g gs num fl sh hs) (s6 : StoR w6 gs gc (wroteM S x.pos (cellT c)) { R with writes := R.writes + 1 }) (t4 : TabR w4 B g gs num fl sh hs) (hrel : RelH hs H) (hov : overB fl R.user num = true ↔ S.tab ≠ some gp) (hy : HRel x ⟨c, 0⟩) (i8 : x.pos < 8) (h0 : (H x.pos).c.st = 0) (hno : ∀ j, j < 8 → ¬ hit H x.id j)
    (gn capn : Nat) (wn : World) (o2 : Obj) (hG : wn.ownsRow B 113 11 (.slice (some ⟨gn, 0, none⟩) (hs.length + 1) capn) (hs.length + 1) (rhL hs ++ (rhA x).toList) ∧ (w6.alloc o2).drew.grownBy wn sh.ownBlock ∧ (sh.ownBlock = some gn ∨ gn = w6.heap.size + 1) ∧ gn < wn.heap.size) :
    RPs w (wn.setCell ⟨g, 3, none⟩ (.slice (some ⟨gn, 0, none⟩) (hs.length + 1) capn)) B g gs gc num sh R gp (wroteM S x.pos (cellT c)) (upd H x.pos c) := by
  obtain ⟨ho, hgr, hat, hlt⟩ := hG
  have F9 : Fr sh.ownBlock.toList (w6.alloc o2).drew wn := Fr.of_grown hgr (by simp)
  have F8 : Fr sh.ownBlock.toList w6 wn := ((Fr.refl _ w6).alloc o2).drew.trans F9
  have F10 : Fr [g] wn (wn.setCell ⟨g, 3, none⟩ (.slice (some ⟨gn, 0, none⟩) (hs.length + 1) capn)) := Fr.setCell (Fr.refl _ _) (.inr (by simp)) _
  have nsh : ∀ {b : Nat} {cs : Array Value} {t : TypeId}, w6.heap[b]? = some (.cells cs t (0, 0)) → t ≠ 113 → b ∉ sh.ownBlock.toList := by
    intro b cs t hb ht hm
    obtain ⟨cur, hcur⟩ := owns_row t6.o (show sh.ownBlock = some b by simpa using hm)
    exact ne_rows hb hcur ht rfl
  have hgn := keepRow F8 t6.r (nsh t6.r (by decide))
  have hgset : (wn.setCell ⟨g, 3, none⟩ (.slice (some ⟨gn, 0, none⟩) (hs.length + 1) capn)).heap[g]? = some (.cells #[ptr gs, .int .i64 num, .bool fl, .slice (some ⟨gn, 0, none⟩) (hs.length + 1) capn] 111 (0, 0)) := by
    simpa using heap_setCell_same wn g 3 _ 111 (.slice (some ⟨gn, 0, none⟩) (hs.length + 1) capn) hgn
  have hne : gn ≠ g := by
    obtain ⟨cur, hcur⟩ := owns_row ho rfl
    exact ne_rows hcur hgn (by decide)
  have n1 := ne_rows t6.r s6.r (by decide)
  have n2 := ne_rows t6.r s6.c (by decide)
  have y6 := f6.size
  have y4 := B4.size
  simp at y6
  have y9 := F8.size
  refine ⟨{ R with writes := R.writes + 1 }, fl, _, hs ++ [x], ?_, ⟨hgset, ?_⟩, ?_, ?_, rfl, rfl, Nat.le_refl _, ?_, ?_⟩
  · exact (s6.fr F8 (nsh s6.r (by decide)) (nsh s6.c (by decide))).fr F10 (by simp; exact fun e => n1 e.symm) (by simp; exact fun e => n2 e.symm)
  · rw [List.length_append, rhL_snoc]
    exact ownsFr ho F10 (fun b hb => by simp only [Value.ownBlock, Option.some.injEq] at hb; subst hb; simp [hne])
  · have hadd := hrel.add x ⟨c, 0⟩ i8 h0 hy (fun j hj hst e => hno j hj ⟨hst, by rw [e, hy.id]⟩)
    have e : upd H x.pos c = setD H x.pos ⟨c, 0⟩ := by rw [upd_set, hrel.z x.pos i8 h0]
    rw [e]; exact hadd
  · rw [wrote_tab]; exact hov
  · intro b hb
    simp only [Value.ownBlock, Option.some.injEq] at hb
    subst hb
    rcases hat with h | h
    · exact .inl h
    · exact .inr ⟨by omega, by simpa using hlt⟩
  · refine (((Fr.of_below _ B4 (Nat.le_refl _)).alloc o).trans (f6.sub ?_)).trans ((F8.sub ?_).trans (F10.sub ?_))
    · intro b hb
      simp only [List.mem_cons, List.not_mem_nil, or_false] at hb
      rcases hb with rfl | rfl | rfl <;> simp
    · intro b hb
      simp [hb]
    · intro b hb
      simp only [List.mem_singleton] at hb
      subst hb
      simp
attribute [local go_sem ↓] al173 stw173 ldw173 bs169w
attribute [local go_sem] run_bs169 run_al173 run_stT173 stN_rh run_ldT173_0 ldN_rh blk_new blk_at blk_old blk_drew blk_setCell blk_setRow alloc_setRow alloc_setCell
set_option maxRecDepth 100000 in
set_option maxHeartbeats 8000000 in
theorem rcreate_bad (B g gs gc num : Nat) (fl : Bool) (sh : Value) (hs : List Rh) (S : Sto) (R : RSt) (gp : Nat) (H : Nat → Hd) (id : Int) (key fix : ByteArray) (cs ca cm : Int) (r : Int) (S' : Sto) (H' : Nat → Hd) (hbd : ¬ (0 ≤ id ∧ id ≤ 65535 ∧ fix.size = 4 ∧ CfgOk cs ca cm)) (hP : createP gp S H id key fix cs ca cm r S' H') (hrel : RelH hs H) (hov : overB fl R.user num = true ↔ S.tab ≠ some gp) (w : World) (t : TabR w B g gs num fl sh hs) (hS : StoR w gs gc S R) :
    Calls Tryz.prog 29 #[ptr g, .int .i64 id, .string key, .string fix, .agg #[.int .i64 cs, .int .i64 ca, .int .i64 cm]] w fun e w' => e = .returned (.int .i64 r) ∧ RPs w w' B g gs gc num sh R gp S' H' := by
  have HBD0 : Hid _ := hbd
  clear hbd
  have h1 := fun w t h => rover_any B g gs gc num fl sh hs S R w t h
  have h2 := fun w => rright_any cs ca cm w
  have h3 := fun w t => rfree_any B g gs num fl sh hs hrel.le w t
  have h4 := fun w t => rfind_any B g gs num fl sh hs id hrel.le w t
  have HQ : Hid (∀ w', Below w.heap.size w w' → RPs w w' B g gs gc num sh R gp S H) := fun w' hb => RPs.same t hS hrel hov hb
  unfold ptr at h1 h3 h4 ⊢
  have H1 : Hid _ := h1
  have H2 : Hid _ := h2
  have H3 : Hid _ := h3
  have H4 : Hid _ := h4
  have HT : Hid _ := t
  have HS : Hid _ := hS
  have HR : Hid _ := hrel
  have HO : Hid _ := hov
  have HP : Hid _ := hP
  have B0 := (Below.refl w.heap.size w).alloc (Nat.le_refl _) (.cells #[.int .i64 cs, .int .i64 ca, .int .i64 cm] 33)
  have r0 : (w.alloc (.cells #[.int .i64 cs, .int .i64 ca, .int .i64 cm] 33)).heap[w.heap.size]? = some (.cells #[.int .i64 cs, .int .i64 ca, .int .i64 cm] 33 (0, 0)) := heap_of_new _ _ _ rfl
  have HB0 : Hid _ := B0
  have HR0 : Hid _ := r0
  clear h1 h2 h3 h4 t hS hrel hov hP B0 r0
  generalize overB fl R.user num = ov at H1 HO
  have hcfi := cfgB_iff cs ca cm
  have HCF : Hid _ := hcfi
  clear hcfi
  generalize cfgB cs ca cm = cf at H2 HCF
  go_enter Tryz.func29, Tryz.ntmps29
  go_wp2_with fail
  refine (H1.out _ (HT.out.below HB0.out) (HS.out.below HB0.out)).mono ?_
  rintro e w1 ⟨rfl, b1⟩
  have B1 := HB0.out.trans (b1.mono (by simp))
  have r1 : w1.heap[w.heap.size]? = some (.cells #[.int .i64 cs, .int .i64 ca, .int .i64 cm] 33 (0, 0)) := by rw [b1.block _ (by simp)]; exact HR0.out
  have d0 : w1.cell? ⟨w.heap.size, 0, none⟩ = some (.int .i64 cs) := by rw [cell_of_row _ _ 0 _ _ _ r1]; rfl
  have d1 : w1.cell? ⟨w.heap.size, 1, none⟩ = some (.int .i64 ca) := by rw [cell_of_row _ _ 1 _ _ _ r1]; rfl
  have d2 : w1.cell? ⟨w.heap.size, 2, none⟩ = some (.int .i64 cm) := by rw [cell_of_row _ _ 2 _ _ _ r1]; rfl
  clear b1
  go_wp2_with fail
  refine (H2.out _).mono ?_
  rintro e w2 ⟨rfl, b2⟩
  have B2 := B1.trans (b2.mono B1.size)
  have r2 : w2.heap[w.heap.size]? = some (.cells #[.int .i64 cs, .int .i64 ca, .int .i64 cm] 33 (0, 0)) := by rw [b2.block _ (heap_lt r1)]; exact r1
  clear b2 r1 B1 d0 d1 d2
  go_wp2_with fail
  refine (H3.out _ (HT.out.below B2)).mono ?_
  rintro e w3 ⟨⟨at', hat, rfl⟩, hw3⟩
  have HW3 : Hid _ := hw3
  clear hw3
  go_wp2_with fail
  refine (H4.out _ (by rw [HW3.out]; exact HT.out.below B2)).mono ?_
  rintro e w4 ⟨⟨there, hth, rfl⟩, hw4⟩
  have B4 : Below w.heap.size w w4 := by rw [hw4, HW3.out]; exact B2
  clear hw4 hat hth B2 r2 HW3
  have HB4 : Hid _ := B4
  clear B4
  rcases HP.out with ⟨h1, e1, e2, e3⟩ | ⟨h1, hc⟩
  · have hov : ov = true := HO.out.2 h1
    have HE : Hid _ := And.intro e1 (And.intro e2 e3)
    clear e1 e2 e3 h1
    go_wp2
    go_ret
    rw [HE.out.1, HE.out.2.1, HE.out.2.2]
    exact ⟨rfl, HQ.out _ HB4.out⟩
  · have hov : ov = false := by
      rw [Bool.eq_false_iff]
      intro e
      exact HO.out.1 e h1
    rcases hc with ⟨hbad, e1, e2, e3⟩ | ⟨hgood, hc⟩
    · have HE : Hid _ := And.intro e1 (And.intro e2 e3)
      have HBD : Hid _ := hbad
      clear e1 e2 e3 h1 hbad
      by_cases i1 : id < 0
      · go_wp2
        go_ret
        rw [HE.out.1, HE.out.2.1, HE.out.2.2]
        exact ⟨rfl, HQ.out _ HB4.out⟩
      · by_cases i2 : 65535 < id
        · go_wp2
          go_ret
          rw [HE.out.1, HE.out.2.1, HE.out.2.2]
          exact ⟨rfl, HQ.out _ HB4.out⟩
        · by_cases i3 : fix.size = 4
          · have e3 : ((fix.size : Int) != 4) = false := by rw [bne_eq_false_iff_eq]; omega
            have hcf : cf = false := by
              rw [Bool.eq_false_iff]
              intro e
              exact HBD.out ⟨by omega, by omega, i3, HCF.out.1 e⟩
            clear i3
            go_wp2
            go_ret
            rw [HE.out.1, HE.out.2.1, HE.out.2.2]
            exact ⟨rfl, HQ.out _ HB4.out⟩
          · have e3 : ((fix.size : Int) != 4) = true := by rw [bne_iff_ne]; omega
            clear i3
            go_wp2
            go_ret
            rw [HE.out.1, HE.out.2.1, HE.out.2.2]
            exact ⟨rfl, HQ.out _ HB4.out⟩
    · exact absurd hgood HBD0.out
set_option maxRecDepth 100000 in
set_option maxHeartbeats 8000000 in
theorem rcreate_good (B g gs gc num : Nat) (fl : Bool) (sh : Value) (hs : List Rh) (S : Sto) (R : RSt) (gp : Nat) (H : Nat → Hd) (I : Nat) (key fix : ByteArray) (s a m : Nat) (r : Int) (S' : Sto) (H' : Nat → Hd) (hgd : 0 ≤ (I : Int) ∧ (I : Int) ≤ 65535 ∧ fix.size = 4 ∧ CfgOk s a m) (hP : createP gp S H I key fix s a m r S' H') (hrel : RelH hs H) (hov : overB fl R.user num = true ↔ S.tab ≠ some gp) (hwr : R.writes < 4611686018427387904) (w : World) (hBw : B ≤ w.heap.size) (t : TabR w B g gs num fl sh hs) (hS : StoR w gs gc S R) :
    Calls Tryz.prog 29 #[ptr g, .int .i64 I, .string key, .string fix, .agg #[.int .i64 s, .int .i64 a, .int .i64 m]] w fun e w' => e = .returned (.int .i64 r) ∧ RPs w w' B g gs gc num sh R gp S' H' := by
  have HOV : Hid _ := hov
  have HGD0 : Hid _ := hgd
  clear hgd
  unfold createP at hP
  simp only [Int.toNat_natCast] at hP
  have h1 := fun w t h => rover_any B g gs gc num fl sh hs S R w t h
  have h2 := fun w => rright_any s a m w
  have h3 := fun w t => rfree_any B g gs num fl sh hs hrel.le w t
  have h4 := fun w t => rfind_any B g gs num fl sh hs I hrel.le w t
  have h5 := fun w => rAlg_any key w
  have HQ : Hid (∀ w', Below w.heap.size w w' → RPs w w' B g gs gc num sh R gp S H) := fun w' hb => RPs.same t hS hrel hov hb
  unfold ptr at h1 h3 h4 ⊢
  have H1 : Hid _ := h1
  have H2 : Hid _ := h2
  have H3 : Hid _ := h3
  have H4 : Hid _ := h4
  have H5 : Hid _ := h5
  have HT : Hid _ := t
  have HS : Hid _ := hS
  have HR : Hid _ := hrel
  have HO : Hid _ := hov
  have HW : Hid _ := hwr
  have HP : Hid _ := hP
  have HB : Hid _ := hBw
  have B0 := (Below.refl w.heap.size w).alloc (Nat.le_refl _) (.cells #[.int .i64 s, .int .i64 a, .int .i64 m] 33)
  have r0 : (w.alloc (.cells #[.int .i64 s, .int .i64 a, .int .i64 m] 33)).heap[w.heap.size]? = some (.cells #[.int .i64 s, .int .i64 a, .int .i64 m] 33 (0, 0)) := heap_of_new _ _ _ rfl
  have HB0 : Hid _ := B0
  have HR0 : Hid _ := r0
  clear h1 h2 h3 h4 h5 t hS hrel hov hwr hP hBw B0 r0
  generalize overB fl R.user num = ov at H1 HO
  have hcfi := cfgB_iff s a m
  have HCF : Hid _ := hcfi
  clear hcfi
  generalize cfgB s a m = cf at H2 HCF
  go_enter Tryz.func29, Tryz.ntmps29
  go_wp2_with fail
  refine (H1.out _ (HT.out.below HB0.out) (HS.out.below HB0.out)).mono ?_
  rintro e w1 ⟨rfl, b1⟩
  have B1 := HB0.out.trans (b1.mono (by simp))
  have r1 : w1.heap[w.heap.size]? = some (.cells #[.int .i64 s, .int .i64 a, .int .i64 m] 33 (0, 0)) := by rw [b1.block _ (by simp)]; exact HR0.out
  have d0 : w1.cell? ⟨w.heap.size, 0, none⟩ = some (.int .i64 s) := by rw [cell_of_row _ _ 0 _ _ _ r1]; rfl
  have d1 : w1.cell? ⟨w.heap.size, 1, none⟩ = some (.int .i64 a) := by rw [cell_of_row _ _ 1 _ _ _ r1]; rfl
  have d2 : w1.cell? ⟨w.heap.size, 2, none⟩ = some (.int .i64 m) := by rw [cell_of_row _ _ 2 _ _ _ r1]; rfl
  clear b1
  go_wp2_with fail
  refine (H2.out _).mono ?_
  rintro e w2 ⟨rfl, b2⟩
  have B2 := B1.trans (b2.mono B1.size)
  have r2 : w2.heap[w.heap.size]? = some (.cells #[.int .i64 s, .int .i64 a, .int .i64 m] 33 (0, 0)) := by rw [b2.block _ (heap_lt r1)]; exact r1
  clear b2 r1 B1 d0 d1 d2
  go_wp2_with fail
  refine (H3.out _ (HT.out.below B2)).mono ?_
  rintro e w3 ⟨⟨at', hat, rfl⟩, hw3⟩
  have HW3 : Hid _ := hw3
  clear hw3
  go_wp2_with fail
  refine (H4.out _ (by rw [HW3.out]; exact HT.out.below B2)).mono ?_
  rintro e w4 ⟨⟨there, hth, rfl⟩, hw4⟩
  have B4 : Below w.heap.size w w4 := by rw [hw4, HW3.out]; exact B2
  have r4 : w4.heap[w.heap.size]? = some (.cells #[.int .i64 s, .int .i64 a, .int .i64 m] 33 (0, 0)) := by rw [hw4, HW3.out]; exact r2
  have HFR : Hid _ := HR.out.free hat
  have HFI : Hid _ := HR.out.find hth
  clear hw4 hat hth B2 r2 HW3
  have HB4 : Hid _ := B4
  have HR4 : Hid _ := r4
  clear B4 r4
  rcases HP.out with ⟨h1, e1, e2, e3⟩ | ⟨h1, hc⟩
  · have hov : ov = true := HO.out.2 h1
    have HE : Hid _ := And.intro e1 (And.intro e2 e3)
    clear e1 e2 e3 h1
    go_wp2
    go_ret
    rw [HE.out.1, HE.out.2.1, HE.out.2.2]
    exact ⟨rfl, HQ.out _ HB4.out⟩
  · have hov : ov = false := by
      rw [Bool.eq_false_iff]
      intro e
      exact HO.out.1 e h1
    rcases hc with ⟨hbad, e1, e2, e3⟩ | ⟨hgood, hc⟩
    · exact absurd HGD0.out hbad
    · obtain ⟨i1, i2, i3, i4⟩ := hgood
      have hcf : cf = true := HCF.out.2 i4
      have j1 : ¬ ((I : Int) < 0) := by omega
      have j2 : ¬ (65535 < (I : Int)) := by omega
      have e3 : ((fix.size : Int) != 4) = false := by rw [bne_eq_false_iff_eq]; omega
      have HGD : Hid _ := And.intro i1 (And.intro i2 (And.intro i3 i4))
      clear i1 i2 i3 i4 h1
      go_wp2_with fail
      refine (H5.out _).mono ?_
      rintro e w5 ⟨rfl, hw5⟩
      rw [hw5]
      clear hw5 w5
      rcases hc with ⟨hk, e1, e2, e3'⟩ | ⟨A, a1, a2, a3, hc⟩
      · have HE : Hid _ := And.intro e1 (And.intro e2 e3')
        have ea : (algN key.size == 0) = true := by
          rw [beq_iff_eq]
          unfold KeyLen at hk
          unfold algN
          rw [if_neg (by omega), if_neg (by omega), if_neg (by omega)]
        clear e1 e2 e3' hk
        go_wp2
        go_ret
        rw [HE.out.1, HE.out.2.1, HE.out.2.2]
        exact ⟨rfl, HQ.out _ HB4.out⟩
      · have hal : algN key.size = A := by
          unfold algN
          rcases (by omega : A = 1 ∨ A = 2 ∨ A = 3) with rfl | rfl | rfl
          · rw [if_pos (by omega)]; rfl
          · rw [if_neg (by omega), if_pos (by omega)]; rfl
          · rw [if_neg (by omega), if_neg (by omega), if_pos (by omega)]; rfl
        have ea : (algN key.size == 0) = false := by rw [hal, beq_eq_false_iff_ne]; omega
        have HA : Hid _ := And.intro a1 (And.intro a2 (And.intro a3 hal))
        clear a3 hal
        rcases hc with ⟨⟨q, q8, hq⟩, e1, e2, e3'⟩ | ⟨hno, hc⟩
        · have HE : Hid _ := And.intro e1 (And.intro e2 e3')
          have hth : 0 ≤ there := by
            rcases HFI.out with ⟨k, x, hx, _⟩ | ⟨_, hn⟩
            · omega
            · exact absurd hq (hn q q8)
          clear e1 e2 e3' hq
          go_wp2
          go_ret
          rw [HE.out.1, HE.out.2.1, HE.out.2.2]
          exact ⟨rfl, HQ.out _ HB4.out⟩
        · have hth : there = -1 := by
            rcases HFI.out with ⟨k, x, hx, _, p8, _, hh, _⟩ | ⟨hx, _⟩
            · exact absurd hh (hno _ p8)
            · exact hx
          have hth2 : ¬ (0 ≤ there) := by omega
          rcases hc with ⟨hfull, e1, e2, e3'⟩ | ⟨i, i8, h0, hmin, hput⟩
          · have HE : Hid _ := And.intro e1 (And.intro e2 e3')
            have hat : at' < 0 := by
              rcases HFR.out with ⟨i, i8, _, h0, _⟩ | ⟨hx, _⟩
              · exact absurd h0 (hfull i i8)
              · omega
            clear e1 e2 e3' hfull hth
            go_wp2
            go_ret
            rw [HE.out.1, HE.out.2.1, HE.out.2.2]
            exact ⟨rfl, HQ.out _ HB4.out⟩
          · have hat : at' = i := by
              rcases HFR.out with ⟨i', i8', hx, h0', hm'⟩ | ⟨_, hf⟩
              · rcases (by omega : i' < i ∨ i' = i ∨ i < i') with h | h | h
                · exact absurd h0' (hmin i' h)
                · omega
                · exact absurd h0 (hm' i h)
              · exact absurd h0 (hf i i8)
            have hat2 : ¬ ((i : Int) < 0) := by omega
            have HPT : Hid _ := hput
            have HNO : Hid _ := And.intro hno h0
            have HAT : Hid _ := hat
            clear hput hno h0 hmin hat hth
            rw [HAT.out]
            obtain ⟨d0, d1, d2⟩ : w4.cell? ⟨w.heap.size, 0, none⟩ = some (.int .i64 s) ∧ w4.cell? ⟨w.heap.size, 1, none⟩ = some (.int .i64 a) ∧ w4.cell? ⟨w.heap.size, 2, none⟩ = some (.int .i64 m) := by
              refine ⟨?_, ?_, ?_⟩
              · rw [cell_of_row _ _ 0 _ _ _ HR4.out]; rfl
              · rw [cell_of_row _ _ 1 _ _ _ HR4.out]; rfl
              · rw [cell_of_row _ _ 2 _ _ _ HR4.out]; rfl
            go_wp2_with fail
            refine (H5.out _).mono ?_
            rintro e w5 ⟨rfl, hw5⟩
            rw [hw5, HA.out.2.2.2]
            clear hw5 w5
            have t4 := HT.out.below HB4.out
            have s4 := HS.out.below HB4.out
            have hy : HRel (⟨A, I, fix, s, a, m, 0, false, key, i, 0⟩ : Rh) ⟨⟨1, A, I, fix, s, a, m, 0, key⟩, 0⟩ := ⟨rfl, rfl, rfl, rfl, rfl, rfl, rfl, rfl, fun _ => rfl, rfl, by show key.size ≤ 1000; have := HA.out.2.2.1; omega, ⟨.inl rfl, ⟨a1, a2⟩, by show I ≤ 65535; have := HGD.out.2.1; omega, HGD.out.2.2.1, HGD.out.2.2.2, Nat.zero_le _, by simp [HA.out.2.2.1]⟩, Nat.zero_le _⟩
            have B5 := (Below.refl w4.heap.size w4).alloc (Nat.le_refl _) (.cells #[.int .i64 A, .int .i64 I, .string fix, .int .i64 s, .int .i64 a, .int .i64 m, .int .i64 0, .bool false, .string key, .int .i64 i, .int .i64 0] 113)
            have hly : Calls Tryz.prog 64 #[.pointer (some ⟨g, 0, none⟩), .agg #[.int .i64 A, .int .i64 I, .string fix, .int .i64 s, .int .i64 a, .int .i64 m, .int .i64 0, .bool false, .string key, .int .i64 i, .int .i64 0]] (w4.alloc (.cells #[.int .i64 A, .int .i64 I, .string fix, .int .i64 s, .int .i64 a, .int .i64 m, .int .i64 0, .bool false, .string key, .int .i64 i, .int .i64 0] 113)) _ := rlay_any B g gs gc num fl sh hs S R (⟨A, I, fix, s, a, m, 0, false, key, i, 0⟩ : Rh) _ hy (show i < 8 from i8) HW.out _ (t4.below B5) (s4.below B5)
            have r5 : (w4.alloc (.cells #[.int .i64 A, .int .i64 I, .string fix, .int .i64 s, .int .i64 a, .int .i64 m, .int .i64 0, .bool false, .string key, .int .i64 i, .int .i64 0] 113)).heap[w4.heap.size]? = some (.cells #[.int .i64 A, .int .i64 I, .string fix, .int .i64 s, .int .i64 a, .int .i64 m, .int .i64 0, .bool false, .string key, .int .i64 i, .int .i64 0] 113 (0, 0)) := heap_of_new _ _ _ rfl
            have HLY : Hid _ := hly
            have HT4 : Hid _ := And.intro t4 (And.intro s4 (And.intro hy r5))
            clear hly t4 s4 hy r5 B5 d0 d1 d2
            go_wp2_with fail
            refine Calls.mono HLY.out ?_
            rintro e w6 ⟨⟨hl, rfl, t6⟩ | ⟨hl, rfl, t6⟩, s6, f6⟩
            · rcases HPT.out with ⟨_, e1, e2, e3'⟩ | ⟨hl', _⟩
              · have HE : Hid _ := And.intro e1 (And.intro e2 e3')
                have hq : RPs w w6 B g gs gc num sh R gp { wroteM S i (cellT ⟨1, A, I, fix, s, a, m, 0, key⟩) with tab := none } H := by
                  have f7 : Fr [g, gs, gc] w w6 := ((Fr.of_below _ HB4.out (Nat.le_refl _)).alloc _).trans f6
                  exact RPs.down t6 s6 HR.out f7
                have HQ2 : Hid _ := hq
                clear hq t6 s6 f6 e1 e2 e3'
                go_wp2
                go_ret
                rw [HE.out.1, HE.out.2.1, HE.out.2.2]
                exact ⟨rfl, HQ2.out⟩
              · exact absurd hl hl'
            · rcases HPT.out with ⟨hl', _⟩ | ⟨_, e1, e2, e3'⟩
              · exact absurd hl' hl
              have HE : Hid _ := And.intro e1 (And.intro e2 e3')
              clear e1 e2 e3'
              obtain ⟨gb, hgb⟩ : ∃ gb, gb = w4.heap.size := ⟨_, rfl⟩
              have lg := HT4.out.1.lt
              have lgs := Row.lt HT4.out.2.1.r
              have lgc := Row.lt HT4.out.2.1.c
              have y6 := f6.size
              have l6 : gb < w6.heap.size := by simp at y6; omega
              have lsh : ∀ b, sh.ownBlock = some b → b < w4.heap.size := fun b hb => (World.ownsRow.lt HT4.out.1.o b hb).2
              have r6 : w6.heap[gb]? = some (.cells #[.int .i64 A, .int .i64 I, .string fix, .int .i64 s, .int .i64 a, .int .i64 m, .int .i64 0, .bool false, .string key, .int .i64 i, .int .i64 0] 113 (0, 0)) := by rw [hgb]; exact keepRow f6 HT4.out.2.2.2 (by simp; omega)
              have hz := info_parts' info173f
              obtain ⟨i0, hi, hz0, hz1, hz2⟩ := hz
              have X0 : w6.drew.heap[gb]? = some (.cells #[.int .i64 A, .int .i64 I, .string fix, .int .i64 s, .int .i64 a, .int .i64 m, .int .i64 0, .bool false, .string key, .int .i64 i, .int .i64 0] 113 (0, 0)) := r6
              have XA : ((w6.alloc (.cells #[.int .i64 A, .int .i64 I, .string fix, .int .i64 s, .int .i64 a, .int .i64 m, .int .i64 0, .bool false, .string key, .int .i64 i, .int .i64 0] 113)).drew).heap[gb]? = some (.cells #[.int .i64 A, .int .i64 I, .string fix, .int .i64 s, .int .i64 a, .int .i64 m, .int .i64 0, .bool false, .string key, .int .i64 i, .int .i64 0] 113 (0, 0)) := keep_alloc _ r6
              have A3 : Hid (w6.drew.cell? ⟨g, 3, none⟩ = some sh) := (cells4' t6.r).2.2.2
              have A3A : Hid ((w6.alloc (.cells #[.int .i64 A, .int .i64 I, .string fix, .int .i64 s, .int .i64 a, .int .i64 m, .int .i64 0, .bool false, .string key, .int .i64 i, .int .i64 0] 113)).drew.cell? ⟨g, 3, none⟩ = some sh) := (cells4' (keep_alloc (.cells #[.int .i64 A, .int .i64 I, .string fix, .int .i64 s, .int .i64 a, .int .i64 m, .int .i64 0, .bool false, .string key, .int .i64 i, .int .i64 0] 113) t6.r)).2.2.2
              have HOW : Hid ((w6.alloc (.cells #[.int .i64 A, .int .i64 I, .string fix, .int .i64 s, .int .i64 a, .int .i64 m, .int .i64 0, .bool false, .string key, .int .i64 i, .int .i64 0] 113)).drew.ownsRow B 113 11 sh hs.length (rhL hs)) := World.ownsRow.alloc t6.o _
              have HNB : Hid ((w6.alloc (.cells #[.int .i64 A, .int .i64 I, .string fix, .int .i64 s, .int .i64 a, .int .i64 m, .int .i64 0, .bool false, .string key, .int .i64 i, .int .i64 0] 113)).drew.heap[w6.heap.size]? = some (.cells #[.int .i64 A, .int .i64 I, .string fix, .int .i64 s, .int .i64 a, .int .i64 m, .int .i64 0, .bool false, .string key, .int .i64 i, .int .i64 0] 113 (0, 0))) := heap_of_new w6 _ _ rfl
              have HLN : Hid (hs.length ≤ 8) := HR.out.le
              have HBB : Hid (B ≤ (w6.alloc (.cells #[.int .i64 A, .int .i64 I, .string fix, .int .i64 s, .int .i64 a, .int .i64 m, .int .i64 0, .bool false, .string key, .int .i64 i, .int .i64 0] 113)).drew.heap.size) := by
                have e1 := HB.out
                have e2 := HB4.out.size
                have e3 : (w6.alloc (.cells #[.int .i64 A, .int .i64 I, .string fix, .int .i64 s, .int .i64 a, .int .i64 m, .int .i64 0, .bool false, .string key, .int .i64 i, .int .i64 0] 113)).drew.heap.size = w6.heap.size + 1 := size_alloc w6 _
                show B ≤ _
                rw [e3]
                omega
              have HSZ : Hid ((w6.alloc (.cells #[.int .i64 A, .int .i64 I, .string fix, .int .i64 s, .int .i64 a, .int .i64 m, .int .i64 0, .bool false, .string key, .int .i64 i, .int .i64 0] 113)).drew.heap.size = w6.heap.size + 1) := size_alloc w6 _
              have HGB : Hid (gb ≠ g) := by show gb ≠ g; omega
              have HGR : Hid (∀ gn capn wn, (wn.ownsRow B 113 11 (.slice (some ⟨gn, 0, none⟩) (hs.length + 1) capn) (hs.length + 1) (rhL hs ++ (rhA (⟨A, I, fix, s, a, m, 0, false, key, i, 0⟩ : Rh)).toList) ∧ (w6.alloc (.cells #[.int .i64 A, .int .i64 I, .string fix, .int .i64 s, .int .i64 a, .int .i64 m, .int .i64 0, .bool false, .string key, .int .i64 i, .int .i64 0] 113)).drew.grownBy wn sh.ownBlock ∧ (sh.ownBlock = some gn ∨ gn = w6.heap.size + 1) ∧ gn < wn.heap.size) → wn.heap[gb]? = some (.cells #[.int .i64 A, .int .i64 I, .string fix, .int .i64 s, .int .i64 a, .int .i64 m, .int .i64 0, .bool false, .string key, .int .i64 i, .int .i64 0] 113 (0, 0)) ∧ wn.heap[g]? = some (.cells #[ptr gs, .int .i64 num, .bool fl, sh] 111 (0, 0))) := by
                rintro gn capn wn ⟨_, hgr, _⟩
                have F9 : Fr sh.ownBlock.toList _ wn := Fr.of_grown hgr (by simp)
                refine ⟨keepRow F9 XA ?_, keepRow F9 (show ((w6.alloc (.cells #[.int .i64 A, .int .i64 I, .string fix, .int .i64 s, .int .i64 a, .int .i64 m, .int .i64 0, .bool false, .string key, .int .i64 i, .int .i64 0] 113)).drew).heap[g]? = _ from keep_alloc _ t6.r) ?_⟩
                · intro hm
                  have := lsh gb (by simpa using hm)
                  omega
                · intro hm
                  obtain ⟨cur, hcur⟩ := owns_row t6.o (show sh.ownBlock = some g by simpa using hm)
                  exact ne_rows t6.r hcur (by decide) rfl
              have HAP : Hid (∀ gn capn wn, (wn.ownsRow B 113 11 (.slice (some ⟨gn, 0, none⟩) (hs.length + 1) capn) (hs.length + 1) (rhL hs ++ (rhA (⟨A, I, fix, s, a, m, 0, false, key, i, 0⟩ : Rh)).toList) ∧ (w6.alloc (.cells #[.int .i64 A, .int .i64 I, .string fix, .int .i64 s, .int .i64 a, .int .i64 m, .int .i64 0, .bool false, .string key, .int .i64 i, .int .i64 0] 113)).drew.grownBy wn sh.ownBlock ∧ (sh.ownBlock = some gn ∨ gn = w6.heap.size + 1) ∧ gn < wn.heap.size) → RPs w (wn.setCell ⟨g, 3, none⟩ (.slice (some ⟨gn, 0, none⟩) (hs.length + 1) capn)) B g gs gc num sh R gp (wroteM S i (cellT ⟨1, A, I, fix, s, a, m, 0, key⟩)) (upd H i ⟨1, A, I, fix, s, a, m, 0, key⟩)) := by
                rintro gn capn wn hG
                exact rappend_post B g gs gc num fl sh hs S R gp H (⟨A, I, fix, s, a, m, 0, false, key, i, 0⟩ : Rh) ⟨1, A, I, fix, s, a, m, 0, key⟩ w w4 w6 _ HB4.out f6 t6 s6 HT4.out.1 HR.out HOV.out HT4.out.2.2.1 i8 HNO.out.2 HNO.out.1 gn capn wn _ hG
              clear r6 lg lgs lgc y6 l6 lsh s6 f6 t6 HT4 HNO HR HO HB4 HOV
              subst hgb
              go_wp2_with fail
              refine wp_region_held_drew (S := fun W' => W'.heap[w4.heap.size]? = some (.cells #[.int .i64 A, .int .i64 I, .string fix, .int .i64 s, .int .i64 a, .int .i64 m, .int .i64 0, .bool false, .string key, .int .i64 i, .int .i64 0] 113 (0, 0))) (by kernel_rfl) X0 (fun hHeld => ?_)
              refine tp 0 _ ?r1
              refine nz ?_
              refine tp 1 _ ?r2
              refine nz ?_
              refine tp 2 _ ?r3
              refine nz ?_
              refine tp 3 _ ?r4
              refine nz ?_
              refine tk 5 ?v5 ?y5 ?r5
              case y5 => (intro W' hW; have hb : blk W' w4.heap.size = _ := hW; go_simp; try with_reducible rfl)
              refine nz ?_
              refine wpAnyH_ready (rs := [4, 6]) (by kernel_rfl) (by simp) ?_
              refine AllReadyH.cons rfl (fun K hK => ?_) (AllReadyH.cons rfl (fun K hK => ?_) AllReadyH.nil)
              · have a3 := A3.out
                go_simp
                refine hK.out _ _ X0 (fun hHeld => ?_)
                clear hK K
                refine wpAnyH_ready (rs := [6]) (by kernel_rfl) (by simp) ?_
                refine AllReadyH.cons rfl (fun K hK => ?_) AllReadyH.nil
                go_simp
                refine hK.out _ _ XA (fun hHeld => ?_)
                clear hK K
                refine wpAnyH_ready (rs := [7]) (by kernel_rfl) (by simp) ?_
                refine AllReadyH.cons rfl (fun K hK => ?_) AllReadyH.nil
                refine step_append_lies _ rfl _ _ 109 rfl B 113 i0 _ 11 104 Tryz.underlying109 hi hz0 hz1 hz2 rfl (by decide) _ hs.length (rhL hs) rfl HOW.out ⟨w6.heap.size, 0, none⟩ 1 1 (rhA (⟨A, I, fix, s, a, m, 0, false, key, i, 0⟩ : Rh)).toList rfl rfl (World.news_of_block HNB.out) (rhA_one _) (by omega) (by have := HLN.out; unfold maxLen; omega) (by have := HLN.out; omega) HBB.out (w6.heap.size + 1) HSZ.out ?_
                intro gn capn wn hown hgrow hat hltn
                have HG : Hid _ := And.intro hown (And.intro hgrow (And.intro hat hltn))
                clear hown hgrow hat hltn
                have xn := (HGR.out _ _ _ HG.out).1
                have tn := (HGR.out _ _ _ HG.out).2
                have fz := frozen_of_row _ _ 3 _ _ tn
                have n3 := (cells4' tn).2.2.2
                refine hK.out _ _ xn (fun hHeld => ?_)
                clear hK K
                refine tp 8 _ ?r6
                refine nz ?_
                refine tp 9 _ ?r7
                refine nz ?_
                refine wpAnyH_ready (rs := [10]) (by kernel_rfl) (by simp) ?_
                refine AllReadyH.cons rfl (fun K hK => ?_) AllReadyH.nil
                go_simp
                refine hK.out _ _ (by rw [heap_skip _ _ _ _ _ HGB.out]; exact xn) (fun hHeld => ?_)
                clear hK K
                refine wpAnyH_done (by kernel_rfl) ?_ _
                have HFin := HAP.out _ _ _ HG.out
                clear HG xn tn fz n3
                go_wp2
                go_ret
                rw [HE.out.1, HE.out.2.1, HE.out.2.2]
                exact ⟨rfl, HFin⟩
              · go_simp
                refine hK.out _ _ XA (fun hHeld => ?_)
                clear hK K
                refine wpAnyH_ready (rs := [4]) (by kernel_rfl) (by simp) ?_
                refine AllReadyH.cons rfl (fun K hK => ?_) AllReadyH.nil
                have a3 := A3A.out
                go_simp
                refine hK.out _ _ XA (fun hHeld => ?_)
                clear hK K
                refine wpAnyH_ready (rs := [7]) (by kernel_rfl) (by simp) ?_
                refine AllReadyH.cons rfl (fun K hK => ?_) AllReadyH.nil
                refine step_append_lies _ rfl _ _ 109 rfl B 113 i0 _ 11 104 Tryz.underlying109 hi hz0 hz1 hz2 rfl (by decide) _ hs.length (rhL hs) rfl HOW.out ⟨w6.heap.size, 0, none⟩ 1 1 (rhA (⟨A, I, fix, s, a, m, 0, false, key, i, 0⟩ : Rh)).toList rfl rfl (World.news_of_block HNB.out) (rhA_one _) (by omega) (by have := HLN.out; unfold maxLen; omega) (by have := HLN.out; omega) HBB.out (w6.heap.size + 1) HSZ.out ?_
                intro gn capn wn hown hgrow hat hltn
                have HG : Hid _ := And.intro hown (And.intro hgrow (And.intro hat hltn))
                clear hown hgrow hat hltn
                have xn := (HGR.out _ _ _ HG.out).1
                have tn := (HGR.out _ _ _ HG.out).2
                have fz := frozen_of_row _ _ 3 _ _ tn
                have n3 := (cells4' tn).2.2.2
                refine hK.out _ _ xn (fun hHeld => ?_)
                clear hK K
                refine tp 8 _ ?r8
                refine nz ?_
                refine tp 9 _ ?r9
                refine nz ?_
                refine wpAnyH_ready (rs := [10]) (by kernel_rfl) (by simp) ?_
                refine AllReadyH.cons rfl (fun K hK => ?_) AllReadyH.nil
                go_simp
                refine hK.out _ _ (by rw [heap_skip _ _ _ _ _ HGB.out]; exact xn) (fun hHeld => ?_)
                clear hK K
                refine wpAnyH_done (by kernel_rfl) ?_ _
                have HFin := HAP.out _ _ _ HG.out
                clear HG xn tn fz n3
                go_wp2
                go_ret
                rw [HE.out.1, HE.out.2.1, HE.out.2.2]
                exact ⟨rfl, HFin⟩
theorem rcreate_any (B g gs gc num : Nat) (fl : Bool) (sh : Value) (hs : List Rh) (S : Sto) (R : RSt) (gp : Nat) (H : Nat → Hd) (id : Int) (key fix : ByteArray) (cs ca cm r : Int) (S' : Sto) (H' : Nat → Hd) (hP : createP gp S H id key fix cs ca cm r S' H') (hrel : RelH hs H) (hov : overB fl R.user num = true ↔ S.tab ≠ some gp) (hwr : R.writes < 4611686018427387904) (w : World) (hBw : B ≤ w.heap.size) (t : TabR w B g gs num fl sh hs) (hS : StoR w gs gc S R) :
    Calls Tryz.prog 29 #[ptr g, .int .i64 id, .string key, .string fix, .agg #[.int .i64 cs, .int .i64 ca, .int .i64 cm]] w fun e w' => e = .returned (.int .i64 r) ∧ RPs w w' B g gs gc num sh R gp S' H' := by
  by_cases hg : 0 ≤ id ∧ id ≤ 65535 ∧ fix.size = 4 ∧ CfgOk cs ca cm
  · have hg' := hg
    obtain ⟨i1, i2, hf4, ⟨⟨s1, s2⟩, ⟨a1, a2⟩, ⟨m1, m2⟩⟩⟩ := hg'
    obtain ⟨I, rfl⟩ : ∃ I : Nat, id = I := ⟨id.toNat, by omega⟩
    obtain ⟨s, rfl⟩ : ∃ I : Nat, cs = I := ⟨cs.toNat, by omega⟩
    obtain ⟨a, rfl⟩ : ∃ I : Nat, ca = I := ⟨ca.toNat, by omega⟩
    obtain ⟨m, rfl⟩ : ∃ I : Nat, cm = I := ⟨cm.toNat, by omega⟩
    exact rcreate_good B g gs gc num fl sh hs S R gp H I key fix s a m r S' H' hg hP hrel hov hwr w hBw t hS
  · exact rcreate_bad B g gs gc num fl sh hs S R gp H id key fix cs ca cm r S' H' hg hP hrel hov w t hS
end Go.Proofs.YtgalgjmhdbncbabGreat
