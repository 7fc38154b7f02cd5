import Derived.Test.YtgalgjmhdbncbabGreatZb00
import Derived.Test.YtgalgjmhdbncbabGreatZb42
import Derived.Test.YtgalgjmhdbncbabGreatZb48
namespace Go.Proofs.YtgalgjmhdbncbabGreat
open Go.RowKit
attribute [local go_sem ↓] Go.wp_at_zero Go.wp_at_succ

theorem stH_empty (S : Sto) (k : Nat) (h : S.cell k = ⟨#[]⟩) : stH S (k + 1) = stH S k := by
  funext j
  unfold stH
  by_cases h1 : j < k
  · rw [if_pos h1, if_pos (by omega)]
  · by_cases h2 : j = k
    · subst h2
      rw [if_neg h1, if_pos (by omega)]
      have : ofC (S.cell j) = zCl := by unfold ofC; rw [h]; rfl
      rw [this]; rfl
    · rw [if_neg h1, if_neg (by omega)]
theorem stH_next (S : Sto) (k : Nat) : stH S (k + 1) = setD (stH S k) k ⟨ofC (S.cell k), (ofC (S.cell k)).res⟩ := by
  funext j
  unfold stH setD
  dsimp only
  by_cases h2 : j = k
  · subst h2
    rw [if_pos rfl, if_pos (by omega)]
  · rw [if_neg h2]
    by_cases h1 : j < k
    · rw [if_pos h1, if_pos (by omega)]
    · rw [if_neg h1, if_neg (by omega)]
theorem RelH.none (S : Sto) : RelH [] (stH S 0) := by
  have hz : ∀ i, stH S 0 i = zHd := fun i => by unfold stH; rw [if_neg (by omega)]
  refine ⟨?_, fun k h hk => by simp at hk, fun i _ h0 => ?_, fun k _ h _ hk => by simp at hk, fun i j _ _ h0 => ?_, fun i _ _ => ?_⟩
  · unfold occ occ1
    simp only [hz]
    rfl
  · rw [hz] at h0; exact absurd rfl h0
  · rw [hz] at h0; exact absurd rfl h0
  · rw [hz]; rfl
def stRe (R : RSt) : RSt := { R with user := R.tables + 1, tables := R.tables + 1 }
structure StL (w W : World) (B g gs gc : Nat) (S : Sto) (R : RSt) (k : Nat) (sh : Value) (hs : List Rh) : Prop where
  s : StoR W gs gc S (stRe R)
  t : TabR W B g gs (R.tables + 1) false sh hs
  r : RelH hs (stH S k)
  ok : ∀ j, j < k → CellOk S j
  b : ∀ b, sh.ownBlock = some b → w.heap.size ≤ b
  f : Fr [gs] w W
  gl : w.heap.size ≤ g
  bl : B ≤ w.heap.size
theorem StL.fr {w W W' : World} {B g gs gc k : Nat} {S : Sto} {R : RSt} {sh : Value} {hs : List Rh} (h : StL w W B g gs gc S R k sh hs) (hf : Fr [] W W') : StL w W' B g gs gc S R k sh hs :=
  ⟨h.s.fr hf (by simp) (by simp), h.t.fr hf (by simp) (by simp), h.r, h.ok, h.b, h.f.trans (hf.sub (by simp)), h.gl, h.bl⟩
theorem StL.below {w W W' : World} {B g gs gc k : Nat} {S : Sto} {R : RSt} {sh : Value} {hs : List Rh} (h : StL w W B g gs gc S R k sh hs) (hb : Below W.heap.size W W') : StL w W' B g gs gc S R k sh hs := h.fr (Fr.of_below _ hb (Nat.le_refl _))
theorem StL.alloc {w W : World} {B g gs gc k : Nat} {S : Sto} {R : RSt} {sh : Value} {hs : List Rh} (h : StL w W B g gs gc S R k sh hs) (o : Obj) : StL w (W.alloc o) B g gs gc S R k sh hs := h.fr ((Fr.refl _ _).alloc o)
theorem StL.skip {w W : World} {B g gs gc k : Nat} {S : Sto} {R : RSt} {sh : Value} {hs : List Rh} (h : StL w W B g gs gc S R k sh hs) (h0 : S.cell k = ⟨#[]⟩) : StL w W B g gs gc S R (k + 1) sh hs := by
  refine ⟨h.s, h.t, by rw [stH_empty S k h0]; exact h.r, fun j hj => ?_, h.b, h.f, h.gl, h.bl⟩
  by_cases e : j = k
  · subst e
    have hz : ofC (S.cell j) = zCl := by unfold ofC; rw [h0]; rfl
    exact ⟨.inl (by rw [h0]; rfl), fun hn => absurd (by rw [hz]; rfl) hn⟩
  · exact h.ok j (by omega)
theorem StL.add {w W : World} {B g gs gc k : Nat} {S : Sto} {R : RSt} {sh : Value} {hs : List Rh} (h : StL w W B g gs gc S R k sh hs) (x : Rh) (hx : x.pos = k) (hr : HRel x ⟨ofC (S.cell k), (ofC (S.cell k)).res⟩) (hk : k < 8) (hc : CellOk S k) (hno : ∀ j, j < 8 → ¬ hit (stH S k) x.id j)
    (gn capn : Nat) (wn : World) (o2 : Obj) (hG : wn.ownsRow B 113 11 (.slice (some ⟨gn, 0, none⟩) (hs.length + 1) capn) (hs.length + 1) (rhL hs ++ (rhA x).toList) ∧ (W.alloc o2).drew.grownBy wn sh.ownBlock ∧ (sh.ownBlock = some gn ∨ gn = W.heap.size + 1) ∧ gn < wn.heap.size) :
    StL w (wn.setCell ⟨g, 3, none⟩ (.slice (some ⟨gn, 0, none⟩) (hs.length + 1) capn)) B g gs gc S R (k + 1) (.slice (some ⟨gn, 0, none⟩) (hs.length + 1) capn) (hs ++ [x]) := by
  obtain ⟨ho, hgr, hat, hlt⟩ := hG
  have F9 : Fr sh.ownBlock.toList (W.alloc o2).drew wn := Fr.of_grown hgr (by simp)
  have F8 : Fr sh.ownBlock.toList W wn := ((Fr.refl _ W).alloc o2).drew.trans F9
  have F10 : Fr [g] wn (wn.setCell ⟨g, 3, none⟩ (.slice (some ⟨gn, 0, none⟩) (hs.length + 1) capn)) := Fr.setCell (Fr.refl _ _) (.inr (by simp)) _
  have nsh : ∀ {b : Nat} {cs : Array Value} {t : TypeId}, W.heap[b]? = some (.cells cs t (0, 0)) → t ≠ 113 → b ∉ sh.ownBlock.toList := by
    intro b cs t hb ht hm
    obtain ⟨cur, hcur⟩ := owns_row h.t.o (show sh.ownBlock = some b by simpa using hm)
    exact ne_rows hb hcur ht rfl
  have hgn := keepRow F8 h.t.r (nsh h.t.r (by decide))
  have hgset : (wn.setCell ⟨g, 3, none⟩ (.slice (some ⟨gn, 0, none⟩) (hs.length + 1) capn)).heap[g]? = some (.cells #[ptr gs, .int .i64 (R.tables + 1 : Nat), .bool false, .slice (some ⟨gn, 0, none⟩) (hs.length + 1) capn] 111 (0, 0)) := by
    simpa using heap_setCell_same wn g 3 _ 111 (.slice (some ⟨gn, 0, none⟩) (hs.length + 1) capn) hgn
  have hne : gn ≠ g := by
    obtain ⟨cur, hcur⟩ := owns_row ho rfl
    exact ne_rows hcur hgn (by decide)
  have n1 := ne_rows h.t.r h.s.r (by decide)
  have n2 := ne_rows h.t.r h.s.c (by decide)
  have y8 := F8.size
  have y0 := h.f.size
  have gl := h.gl
  refine ⟨?_, ⟨hgset, ?_⟩, ?_, ?_, ?_, ?_, h.gl, h.bl⟩
  · exact (h.s.fr F8 (nsh h.s.r (by decide)) (nsh h.s.c (by decide))).fr F10 (by simp; exact fun e => n1 e.symm) (by simp; exact fun e => n2 e.symm)
  · rw [List.length_append, rhL_snoc]
    exact ownsFr ho F10 (fun b hb => by simp only [Value.ownBlock, Option.some.injEq] at hb; subst hb; simp [hne])
  · have h0 : (stH S k x.pos).c.st = 0 := by rw [hx]; unfold stH; rw [if_neg (by omega)]; rfl
    have hadd := h.r.add x ⟨ofC (S.cell k), (ofC (S.cell k)).res⟩ (by omega) h0 hr (fun j hj hst e => hno j hj ⟨hst, by rw [e, hr.id]⟩)
    rw [hx, ← stH_next] at hadd
    exact hadd
  · intro j hj
    by_cases e : j = k
    · subst e; exact hc
    · exact h.ok j (by omega)
  · intro b hb
    simp only [Value.ownBlock, Option.some.injEq] at hb
    subst hb
    rcases hat with h' | h'
    · exact h.b gn h'
    · omega
  · refine ⟨F10.os.trans (F8.os.trans h.f.os), F10.tape.trans (F8.tape.trans h.f.tape), F10.output.trans (F8.output.trans h.f.output), Nat.le_trans (Nat.le_trans y0 y8) F10.size, fun b hb hn => ?_⟩
    rw [F10.block b (by omega) (by simp; omega), F8.block b (by omega) (fun hm => by have := h.b b (by simpa using hm); omega), h.f.block b hb hn]
attribute [local go_sem ↓] al173 stw173 ldw173 bs169w
attribute [local go_sem] run_bs169 run_al173 run_stT173 stN_rh run_ldT173_0 ldN_rh blk_new blk_at blk_old blk_drew blk_setCell blk_setRow alloc_setRow alloc_setCell
set_option maxRecDepth 100000 in
set_option maxHeartbeats 1000000 in
theorem rstart_nil (w : World) : Calls Tryz.prog 27 #[.pointer none] w fun e w' => e = .returned (.tuple #[.pointer none, .int .i64 1]) ∧ w' = w := by
  go_enter Tryz.func27, Tryz.ntmps27
  go_wp2
  go_ret2
  exact ⟨rfl, rfl⟩
theorem StoR.setUT {w : World} {g gc : Nat} {S : Sto} {R : RSt} (h : StoR w g gc S R) : StoR ((w.setCell ⟨g, 5, none⟩ (.int .i64 ((R.tables : Int) + 1))).setCell ⟨g, 4, none⟩ (.int .i64 ((R.tables : Int) + 1))) g gc S (stRe R) := by
  have n := h.ne
  refine ⟨?_, ?_, h.left⟩
  · refine Row.congr (Row.set (Row.set h.r 5 _) 4 _) (fun j hj => ?_)
    rcases (by omega : j = 0 ∨ j = 1 ∨ j = 2 ∨ j = 3 ∨ j = 4 ∨ j = 5) with rfl | rfl | rfl | rfl | rfl | rfl <;> simp [refV, stRe]
  · exact Row.other (Row.other h.c (fun e => n e.symm)) (fun e => n e.symm)
set_option maxRecDepth 100000 in
set_option maxHeartbeats 8000000 in
theorem rstart_any (B gs gc : Nat) (S : Sto) (R : RSt) (hz : ∀ j, j < 8 → (S.cell j).size ≤ 64) (hT : R.tables < 4611686018427387904) (w : World) (hB : B ≤ w.heap.size) (hS : StoR w gs gc S R) :
    Calls Tryz.prog 27 #[ptr gs] w fun e w' => (((∀ j, j < 8 → CellOk S j) ∧ ∃ g sh hs, w.heap.size ≤ g ∧ e = .returned (.tuple #[.pointer (some ⟨g, 0, none⟩), .int .i64 0]) ∧ TabR w' B g gs (R.tables + 1) false sh hs ∧ RelH hs (stH S 8) ∧ ∀ b, sh.ownBlock = some b → w.heap.size ≤ b) ∨
      ((¬ ∀ j, j < 8 → CellOk S j) ∧ e = .returned (.tuple #[.pointer none, .int .i64 9]))) ∧ StoR w' gs gc S (stRe R) ∧ Fr [gs] w w' := by
  have HZ : Hid _ := hz
  clear hz
  have S1 := StoR.setUT hS
  have f4 := Row.frozen hS.r 4
  have f5 := Row.frozen hS.r 5
  have c5 := hS.at5
  have c4 := hS.at4
  have F1 : Fr [gs] w ((w.setCell ⟨gs, 5, none⟩ (.int .i64 ((R.tables : Int) + 1))).setCell ⟨gs, 4, none⟩ (.int .i64 ((R.tables : Int) + 1))) := Fr.setCell (Fr.setCell (Fr.refl _ _) (.inr (by simp)) _) (.inr (by simp)) _
  have T1 : TabR (((w.setCell ⟨gs, 5, none⟩ (.int .i64 ((R.tables : Int) + 1))).setCell ⟨gs, 4, none⟩ (.int .i64 ((R.tables : Int) + 1))).alloc (.cells #[.pointer (some ⟨gs, 0, none⟩), .int .i64 ((R.tables : Int) + 1), .bool false, .slice none 0 0] 111)) B w.heap.size gs (R.tables + 1) false (.slice none 0 0) [] :=
    ⟨heap_of_new _ _ _ (by simp), World.ownsRow_nil _ _ _ _⟩
  have L0 : StL w (((w.setCell ⟨gs, 5, none⟩ (.int .i64 ((R.tables : Int) + 1))).setCell ⟨gs, 4, none⟩ (.int .i64 ((R.tables : Int) + 1))).alloc (.cells #[.pointer (some ⟨gs, 0, none⟩), .int .i64 ((R.tables : Int) + 1), .bool false, .slice none 0 0] 111)) B w.heap.size gs gc S R 0 (.slice none 0 0) [] :=
    ⟨S1.fr ((Fr.refl [] _).alloc _) (by simp) (by simp), T1, RelH.none S, fun j hj => by omega, fun b hb => by simp [Value.ownBlock] at hb, F1.alloc _, Nat.le_refl _, hB⟩
  have HL : Hid _ := L0
  clear S1 L0 F1 T1 hS
  unfold ptr
  go_enter Tryz.func27, Tryz.ntmps27
  go_wp2
  obtain ⟨g, hg⟩ : ∃ g, w.heap.size = g := ⟨_, rfl⟩
  have hL0 := HL.out
  rw [hg] at hL0 ⊢
  clear HL c4 c5 f4 f5
  go_loopw [5, 6, 7, 8] (fun i _ _ _ wr => ∃ (k : Nat) (sh : Value) (hs : List Rh), k ≤ 8 ∧ i = .int .i64 k ∧ StL w wr B g gs gc S R k sh hs) (fun i _ _ _ _ => 8 - (intOf i).toNat)
  case atStart => exact ⟨0, _, _, by omega, rfl, hL0⟩
  case round =>
    clear hL0
    obtain ⟨k, sh, hs, hk, rfl, hL⟩ := hrel
    have hat0 := hL.s.at0
    by_cases hk8 : k < 8
    · have hck := Row.cell hL.s.c k hk8
      by_cases h0 : S.cell k = ⟨#[]⟩
      · have hL2 := hL.skip h0
        have HL2 : Hid _ := hL2
        rw [h0] at hck
        clear hL hL2 h0
        go_wp2
        exact ⟨⟨k + 1, _, _, by omega, by go_num, HL2.out⟩, by simp [intOf]; omega⟩
      · have e0 : (S.cell k).toList.isEmpty = false := by
          rw [List.isEmpty_eq_false_iff]
          intro e
          apply h0
          rw [ByteArray.toList_eq] at e
          refine (empty_iff _).1 ?_
          show (S.cell k).data.size = 0
          rw [← Array.length_toList, e]
          rfl
        have hz0 : (S.cell k).size ≠ 0 := fun e => h0 ((empty_iff _).1 e)
        have hrd := fun W => rread_any (S.cell k) k (HZ.out k hk8) hz0 W
        have HRD : Hid _ := hrd
        have HL1 : Hid _ := hL
        clear hrd hL h0 hz0
        go_wp2_with fail
        refine (HRD.out _).mono ?_
        rintro e w1 ⟨⟨x, b, rfl, hb, hx⟩, b1⟩
        have L1 := HL1.out.below b1
        have L2 := L1.alloc (.cells (rhA x) 113)
        have r2 : (w1.alloc (.cells (rhA x) 113)).heap[w1.heap.size]? = some (.cells (rhA x) 113 (0, 0)) := heap_of_new _ _ _ rfl
        have hfi := rfind_any B g gs (R.tables + 1) false sh hs x.id L2.r.le _ L2.t
        unfold rhA at L2 r2 hfi
        unfold ptr at hfi
        unfold rhA
        have HFI : Hid _ := hfi
        have HL2 : Hid _ := L2
        have HL1' : Hid _ := L1
        have HX : Hid _ := And.intro hb hx
        have HR2 : Hid _ := r2
        clear b1 L1 L2 hfi hb hx HL1 HRD hat0 hck e0 r2
        go_wp2_with fail
        refine Calls.mono HFI.out ?_
        rintro e w2 ⟨⟨r, hr, rfl⟩, hw2⟩
        rw [hw2]
        clear hw2 w2
        have hfind := HL2.out.r.find hr
        have HFD : Hid _ := hfind
        clear hfind hr HFI
        cases b with
        | false =>
          have hbad : ¬ ∀ j, j < 8 → CellOk S j := fun h => by have := HX.out.1.2 (h k hk8).1; simp at this
          have HBAD : Hid _ := hbad
          clear hbad
          go_wp2
          go_ret2
          exact ⟨.inr ⟨HBAD.out, rfl⟩, HL2.out.s, HL2.out.f⟩
        | true =>
          obtain ⟨hxp, hxr⟩ := HX.out.2 rfl
          have hof : ofOk (S.cell k) := HX.out.1.1 rfl
          rcases HFD.out with ⟨kk, hh, rfl, _, p8, _, hit', _⟩ | ⟨rfl, hno⟩
          · have hbad : ¬ ∀ j, j < 8 → CellOk S j := fun h => by
              have h1 := (h k hk8).2 hxr.st
              have h2 := hit'.1
              have h3 := hit'.2
              unfold stH at h2 h3
              by_cases e : hh.pos < k
              · rw [if_pos e] at h2 h3
                refine h1 hh.pos e ⟨h2, ?_⟩
                have h4 := hxr.id
                dsimp only at h3 h4
                omega
              · rw [if_neg e] at h2
                exact h2 rfl
            have HBAD : Hid _ := hbad
            have hge : (0 : Int) ≤ (kk : Int) := by omega
            clear hbad hit' hxp hxr hof p8
            go_wp2
            go_ret2
            exact ⟨.inr ⟨HBAD.out, rfl⟩, HL2.out.s, HL2.out.f⟩
          · have hCO : CellOk S k := by
              refine ⟨hof, fun h0 i hi hh => ?_⟩
              refine hno i (by omega) ⟨?_, ?_⟩
              · unfold stH; rw [if_pos hi]; exact hh.1
              · have h4 := hxr.id
                have h5 := hh.2
                unfold stH; rw [if_pos hi]
                dsimp only at h4 ⊢
                omega
            obtain ⟨gb, hgb⟩ : ∃ gb, gb = w1.heap.size := ⟨_, rfl⟩
            obtain ⟨w6, hw6⟩ : ∃ w6, w6 = w1.alloc (.cells #[.int .i64 x.alg, .int .i64 x.id, .string x.fix, .int .i64 x.seals, .int .i64 x.ahead, .int .i64 x.most, .int .i64 x.res, .bool x.ret, .string x.key, .int .i64 x.pos, .int .i64 x.ctr] 113) := ⟨_, rfl⟩
            have L6 : StL w w6 B g gs gc S R k sh hs := by rw [hw6]; exact HL2.out
            have r6 : w6.heap[gb]? = some (.cells #[.int .i64 x.alg, .int .i64 x.id, .string x.fix, .int .i64 x.seals, .int .i64 x.ahead, .int .i64 x.most, .int .i64 x.res, .bool x.ret, .string x.key, .int .i64 x.pos, .int .i64 x.ctr] 113 (0, 0)) := by rw [hw6, hgb]; exact HR2.out
            have t6 := L6.t
            have lg := HL1'.out.t.lt
            have lsh : ∀ b, sh.ownBlock = some b → b < w1.heap.size := fun b hb => (World.ownsRow.lt HL1'.out.t.o b hb).2
            have hz := info_parts' info173f
            obtain ⟨i0, hi, hz0, hz1, hz2⟩ := hz
            have X0 : w6.drew.heap[gb]? = some (.cells #[.int .i64 x.alg, .int .i64 x.id, .string x.fix, .int .i64 x.seals, .int .i64 x.ahead, .int .i64 x.most, .int .i64 x.res, .bool x.ret, .string x.key, .int .i64 x.pos, .int .i64 x.ctr] 113 (0, 0)) := r6
            have XA : ((w6.alloc (.cells #[.int .i64 x.alg, .int .i64 x.id, .string x.fix, .int .i64 x.seals, .int .i64 x.ahead, .int .i64 x.most, .int .i64 x.res, .bool x.ret, .string x.key, .int .i64 x.pos, .int .i64 x.ctr] 113)).drew).heap[gb]? = some (.cells #[.int .i64 x.alg, .int .i64 x.id, .string x.fix, .int .i64 x.seals, .int .i64 x.ahead, .int .i64 x.most, .int .i64 x.res, .bool x.ret, .string x.key, .int .i64 x.pos, .int .i64 x.ctr] 113 (0, 0)) := keep_alloc _ r6
            have A3 : Hid (w6.drew.cell? ⟨g, 3, none⟩ = some sh) := (cells4' t6.r).2.2.2
            have A3A : Hid ((w6.alloc (.cells #[.int .i64 x.alg, .int .i64 x.id, .string x.fix, .int .i64 x.seals, .int .i64 x.ahead, .int .i64 x.most, .int .i64 x.res, .bool x.ret, .string x.key, .int .i64 x.pos, .int .i64 x.ctr] 113)).drew.cell? ⟨g, 3, none⟩ = some sh) := (cells4' (keep_alloc (.cells #[.int .i64 x.alg, .int .i64 x.id, .string x.fix, .int .i64 x.seals, .int .i64 x.ahead, .int .i64 x.most, .int .i64 x.res, .bool x.ret, .string x.key, .int .i64 x.pos, .int .i64 x.ctr] 113) t6.r)).2.2.2
            have HOW : Hid ((w6.alloc (.cells #[.int .i64 x.alg, .int .i64 x.id, .string x.fix, .int .i64 x.seals, .int .i64 x.ahead, .int .i64 x.most, .int .i64 x.res, .bool x.ret, .string x.key, .int .i64 x.pos, .int .i64 x.ctr] 113)).drew.ownsRow B 113 11 sh hs.length (rhL hs)) := World.ownsRow.alloc t6.o _
            have HNB : Hid ((w6.alloc (.cells #[.int .i64 x.alg, .int .i64 x.id, .string x.fix, .int .i64 x.seals, .int .i64 x.ahead, .int .i64 x.most, .int .i64 x.res, .bool x.ret, .string x.key, .int .i64 x.pos, .int .i64 x.ctr] 113)).drew.heap[w6.heap.size]? = some (.cells #[.int .i64 x.alg, .int .i64 x.id, .string x.fix, .int .i64 x.seals, .int .i64 x.ahead, .int .i64 x.most, .int .i64 x.res, .bool x.ret, .string x.key, .int .i64 x.pos, .int .i64 x.ctr] 113 (0, 0))) := heap_of_new w6 _ _ rfl
            have HLN : Hid (hs.length ≤ 8) := L6.r.le
            have HBB : Hid (B ≤ (w6.alloc (.cells #[.int .i64 x.alg, .int .i64 x.id, .string x.fix, .int .i64 x.seals, .int .i64 x.ahead, .int .i64 x.most, .int .i64 x.res, .bool x.ret, .string x.key, .int .i64 x.pos, .int .i64 x.ctr] 113)).drew.heap.size) := by
              have e1 := L6.bl
              have e2 := L6.f.size
              have e3 : (w6.alloc (.cells #[.int .i64 x.alg, .int .i64 x.id, .string x.fix, .int .i64 x.seals, .int .i64 x.ahead, .int .i64 x.most, .int .i64 x.res, .bool x.ret, .string x.key, .int .i64 x.pos, .int .i64 x.ctr] 113)).drew.heap.size = w6.heap.size + 1 := size_alloc w6 _
              show B ≤ _
              rw [e3]
              omega
            have HSZ : Hid ((w6.alloc (.cells #[.int .i64 x.alg, .int .i64 x.id, .string x.fix, .int .i64 x.seals, .int .i64 x.ahead, .int .i64 x.most, .int .i64 x.res, .bool x.ret, .string x.key, .int .i64 x.pos, .int .i64 x.ctr] 113)).drew.heap.size = w6.heap.size + 1) := size_alloc w6 _
            have HGB : Hid (gb ≠ g) := by show gb ≠ g; omega
            have HGR : Hid (∀ gn capn wn, (wn.ownsRow B 113 11 (.slice (some ⟨gn, 0, none⟩) (hs.length + 1) capn) (hs.length + 1) (rhL hs ++ (rhA x).toList) ∧ (w6.alloc (.cells #[.int .i64 x.alg, .int .i64 x.id, .string x.fix, .int .i64 x.seals, .int .i64 x.ahead, .int .i64 x.most, .int .i64 x.res, .bool x.ret, .string x.key, .int .i64 x.pos, .int .i64 x.ctr] 113)).drew.grownBy wn sh.ownBlock ∧ (sh.ownBlock = some gn ∨ gn = w6.heap.size + 1) ∧ gn < wn.heap.size) → wn.heap[gb]? = some (.cells #[.int .i64 x.alg, .int .i64 x.id, .string x.fix, .int .i64 x.seals, .int .i64 x.ahead, .int .i64 x.most, .int .i64 x.res, .bool x.ret, .string x.key, .int .i64 x.pos, .int .i64 x.ctr] 113 (0, 0)) ∧ wn.heap[g]? = some (.cells #[ptr gs, .int .i64 (R.tables + 1 : Nat), .bool false, sh] 111 (0, 0))) := by
              rintro gn capn wn ⟨_, hgr, _⟩
              have F9 : Fr sh.ownBlock.toList _ wn := Fr.of_grown hgr (by simp)
              refine ⟨keepRow F9 XA ?_, keepRow F9 (show ((w6.alloc (.cells #[.int .i64 x.alg, .int .i64 x.id, .string x.fix, .int .i64 x.seals, .int .i64 x.ahead, .int .i64 x.most, .int .i64 x.res, .bool x.ret, .string x.key, .int .i64 x.pos, .int .i64 x.ctr] 113)).drew).heap[g]? = _ from keep_alloc _ t6.r) ?_⟩
              · intro hm
                have := lsh gb (by simpa using hm)
                omega
              · intro hm
                obtain ⟨cur, hcur⟩ := owns_row t6.o (show sh.ownBlock = some g by simpa using hm)
                exact ne_rows t6.r hcur (by decide) rfl
            have HAP : Hid (∀ gn capn wn, (wn.ownsRow B 113 11 (.slice (some ⟨gn, 0, none⟩) (hs.length + 1) capn) (hs.length + 1) (rhL hs ++ (rhA x).toList) ∧ (w6.alloc (.cells #[.int .i64 x.alg, .int .i64 x.id, .string x.fix, .int .i64 x.seals, .int .i64 x.ahead, .int .i64 x.most, .int .i64 x.res, .bool x.ret, .string x.key, .int .i64 x.pos, .int .i64 x.ctr] 113)).drew.grownBy wn sh.ownBlock ∧ (sh.ownBlock = some gn ∨ gn = w6.heap.size + 1) ∧ gn < wn.heap.size) → StL w (wn.setCell ⟨g, 3, none⟩ (.slice (some ⟨gn, 0, none⟩) (hs.length + 1) capn)) B g gs gc S R (k + 1) (.slice (some ⟨gn, 0, none⟩) (hs.length + 1) capn) (hs ++ [x])) := by
              rintro gn capn wn hG
              exact L6.add x hxp hxr hk8 hCO hno gn capn wn _ hG
            rw [← hgb]
            clear HL1' HL2 HR2 HX HFD hxp hxr hof hno hCO r6 L6 t6 lg lsh hgb
            rw [← hw6]
            clear hw6
            go_wp2_with fail
            refine wp_region_held_drew (S := fun W' => W'.heap[gb]? = some (.cells #[.int .i64 x.alg, .int .i64 x.id, .string x.fix, .int .i64 x.seals, .int .i64 x.ahead, .int .i64 x.most, .int .i64 x.res, .bool x.ret, .string x.key, .int .i64 x.pos, .int .i64 x.ctr] 113 (0, 0))) (by kernel_rfl) X0 (fun hHeld => ?_)
            refine tp 0 _ ?r1
            refine nz ?_
            refine tp 1 _ ?r2
            refine nz ?_
            refine tp 2 _ ?r3
            refine nz ?_
            refine tp 3 _ ?r4
            refine nz ?_
            refine tk 5 ?v5 ?y5 ?r5
            case y5 => (intro W' hW; have hb : blk W' gb = _ := hW; go_simp; try with_reducible rfl)
            refine nz ?_
            refine wpAnyH_ready (rs := [4, 6]) (by kernel_rfl) (by simp) ?_
            refine AllReadyH.cons rfl (fun K hK => ?_) (AllReadyH.cons rfl (fun K hK => ?_) AllReadyH.nil)
            · have a3 := A3.out
              go_simp
              refine hK.out _ _ X0 (fun hHeld => ?_)
              clear hK K
              refine wpAnyH_ready (rs := [6]) (by kernel_rfl) (by simp) ?_
              refine AllReadyH.cons rfl (fun K hK => ?_) AllReadyH.nil
              go_simp
              refine hK.out _ _ XA (fun hHeld => ?_)
              clear hK K
              refine wpAnyH_ready (rs := [7]) (by kernel_rfl) (by simp) ?_
              refine AllReadyH.cons rfl (fun K hK => ?_) AllReadyH.nil
              refine step_append_lies _ rfl _ _ 109 rfl B 113 i0 _ 11 104 Tryz.underlying109 hi hz0 hz1 hz2 rfl (by decide) _ hs.length (rhL hs) rfl HOW.out ⟨w6.heap.size, 0, none⟩ 1 1 (rhA x).toList rfl rfl (World.news_of_block HNB.out) (rhA_one _) (by omega) (by have := HLN.out; unfold maxLen; omega) (by have := HLN.out; omega) HBB.out (w6.heap.size + 1) HSZ.out ?_
              intro gn capn wn hown hgrow hat hltn
              have HG : Hid _ := And.intro hown (And.intro hgrow (And.intro hat hltn))
              clear hown hgrow hat hltn
              have xn := (HGR.out _ _ _ HG.out).1
              have tn := (HGR.out _ _ _ HG.out).2
              have fz := frozen_of_row _ _ 3 _ _ tn
              have n3 := (cells4' tn).2.2.2
              refine hK.out _ _ xn (fun hHeld => ?_)
              clear hK K
              refine tp 8 _ ?r6
              refine nz ?_
              refine tp 9 _ ?r7
              refine nz ?_
              refine wpAnyH_ready (rs := [10]) (by kernel_rfl) (by simp) ?_
              refine AllReadyH.cons rfl (fun K hK => ?_) AllReadyH.nil
              go_simp
              refine hK.out _ _ (by rw [heap_skip _ _ _ _ _ HGB.out]; exact xn) (fun hHeld => ?_)
              clear hK K
              refine wpAnyH_done (by kernel_rfl) ?_ _
              have HN : Hid _ := HAP.out _ _ _ HG.out
              clear HG xn tn fz n3
              go_wp2
              exact ⟨⟨k + 1, _, _, by omega, by go_num, HN.out⟩, by simp [intOf]; omega⟩
            · go_simp
              refine hK.out _ _ XA (fun hHeld => ?_)
              clear hK K
              refine wpAnyH_ready (rs := [4]) (by kernel_rfl) (by simp) ?_
              refine AllReadyH.cons rfl (fun K hK => ?_) AllReadyH.nil
              have a3 := A3A.out
              go_simp
              refine hK.out _ _ XA (fun hHeld => ?_)
              clear hK K
              refine wpAnyH_ready (rs := [7]) (by kernel_rfl) (by simp) ?_
              refine AllReadyH.cons rfl (fun K hK => ?_) AllReadyH.nil
              refine step_append_lies _ rfl _ _ 109 rfl B 113 i0 _ 11 104 Tryz.underlying109 hi hz0 hz1 hz2 rfl (by decide) _ hs.length (rhL hs) rfl HOW.out ⟨w6.heap.size, 0, none⟩ 1 1 (rhA x).toList rfl rfl (World.news_of_block HNB.out) (rhA_one _) (by omega) (by have := HLN.out; unfold maxLen; omega) (by have := HLN.out; omega) HBB.out (w6.heap.size + 1) HSZ.out ?_
              intro gn capn wn hown hgrow hat hltn
              have HG : Hid _ := And.intro hown (And.intro hgrow (And.intro hat hltn))
              clear hown hgrow hat hltn
              have xn := (HGR.out _ _ _ HG.out).1
              have tn := (HGR.out _ _ _ HG.out).2
              have fz := frozen_of_row _ _ 3 _ _ tn
              have n3 := (cells4' tn).2.2.2
              refine hK.out _ _ xn (fun hHeld => ?_)
              clear hK K
              refine tp 8 _ ?r8
              refine nz ?_
              refine tp 9 _ ?r9
              refine nz ?_
              refine wpAnyH_ready (rs := [10]) (by kernel_rfl) (by simp) ?_
              refine AllReadyH.cons rfl (fun K hK => ?_) AllReadyH.nil
              go_simp
              refine hK.out _ _ (by rw [heap_skip _ _ _ _ _ HGB.out]; exact xn) (fun hHeld => ?_)
              clear hK K
              refine wpAnyH_done (by kernel_rfl) ?_ _
              have HN : Hid _ := HAP.out _ _ _ HG.out
              clear HG xn tn fz n3
              go_wp2
              exact ⟨⟨k + 1, _, _, by omega, by go_num, HN.out⟩, by simp [intOf]; omega⟩
    · have : k = 8 := by omega
      subst this
      have HX : Hid _ := hL
      clear hL hat0
      go_wp2
      go_ret2
      exact ⟨.inl ⟨HX.out.ok, g, sh, hs, by omega, rfl, HX.out.t, HX.out.r, HX.out.b⟩, HX.out.s, HX.out.f⟩
end Go.Proofs.YtgalgjmhdbncbabGreat
