import Derived.Test.YtgalgjmhdbncbaaGreatZt00
import Derived.Test.YtgalgjmhdbncbaaGreatZt21
import Derived.Test.YtgalgjmhdbncbaaGreatZt25
import Derived.Test.YtgalgjmhdbncbaaGreatZt20
import Derived.Test.YtgalgjmhdbncbaaGreatZt19
import Derived.ProofKit
import Derived.OpenShut
import Derived.ShutString
import Derived.SizedLaws
import Derived.Deep.Slices
import Derived.Carry
namespace Go.Proofs.YtgalgjmhdbncbaaGreat
attribute [local bitvec_to_nat] Act.put List.getElem_toArray List.getElem_cons_zero List.getElem_cons_succ List.setIfInBounds_toArray List.set_cons_zero List.set_cons_succ
open Go.RowKit
attribute [local go_sem ↓] Go.wp_at_zero Go.wp_at_succ

theorem stH_empty (S : Sto) (k : Nat) (h : S.cell k = ⟨#[]⟩) : stH S (k + 1) = stH S k := by
  funext j
  unfold stH
  by_cases h1 : j < k
  · rw [if_pos h1, if_pos (by omega)]
  · by_cases h2 : j = k
    · subst h2
      rw [if_neg h1, if_pos (by omega)]
      have : ofC (S.cell j) = zCl := by unfold ofC; rw [h]; rfl
      rw [this]; rfl
    · rw [if_neg h1, if_neg (by omega)]
theorem stH_next (S : Sto) (k : Nat) : stH S (k + 1) = setD (stH S k) k ⟨ofC (S.cell k), (ofC (S.cell k)).res⟩ := by
  funext j
  unfold stH setD
  dsimp only
  by_cases h2 : j = k
  · subst h2
    rw [if_pos rfl, if_pos (by omega)]
  · rw [if_neg h2]
    by_cases h1 : j < k
    · rw [if_pos h1, if_pos (by omega)]
    · rw [if_neg h1, if_neg (by omega)]
theorem RelH.none (S : Sto) : RelH [] (stH S 0) := by
  have hz : ∀ i, stH S 0 i = zHd := fun i => by unfold stH; rw [if_neg (by omega)]
  refine ⟨?_, fun k h hk => by simp at hk, fun i _ h0 => ?_, fun k _ h _ hk => by simp at hk, fun i j _ _ h0 => ?_, fun i _ _ => ?_⟩
  · unfold occ occ1
    simp only [hz]
    rfl
  · rw [hz] at h0; exact absurd rfl h0
  · rw [hz] at h0; exact absurd rfl h0
  · rw [hz]; rfl
def stRe (R : RSt) : RSt := { R with user := R.tables + 1, tables := R.tables + 1 }
structure StL (w W : World) (B g gs gc : Nat) (S : Sto) (R : RSt) (k : Nat) (sh : Value) (hs : List Rh) : Prop where
  s : StoR W gs gc S (stRe R)
  t : TabR W B g gs (R.tables + 1) false sh hs
  r : RelH hs (stH S k)
  ok : ∀ j, j < k → CellOk S j
  b : ∀ b, sh.ownBlock = some b → w.heap.size ≤ b
  f : Fr [gs] w W
  gl : w.heap.size ≤ g
  bl : B ≤ w.heap.size
theorem StL.fr {w W W' : World} {B g gs gc k : Nat} {S : Sto} {R : RSt} {sh : Value} {hs : List Rh} (h : StL w W B g gs gc S R k sh hs) (hf : Fr [] W W') : StL w W' B g gs gc S R k sh hs :=
  ⟨h.s.fr hf (by simp) (by simp), h.t.fr hf (by simp) (by simp), h.r, h.ok, h.b, h.f.trans (hf.sub (by simp)), h.gl, h.bl⟩
theorem StL.below {w W W' : World} {B g gs gc k : Nat} {S : Sto} {R : RSt} {sh : Value} {hs : List Rh} (h : StL w W B g gs gc S R k sh hs) (hb : Below W.heap.size W W') : StL w W' B g gs gc S R k sh hs := h.fr (Fr.of_below _ hb (Nat.le_refl _))
theorem StL.alloc {w W : World} {B g gs gc k : Nat} {S : Sto} {R : RSt} {sh : Value} {hs : List Rh} (h : StL w W B g gs gc S R k sh hs) (o : Obj) : StL w (W.alloc o) B g gs gc S R k sh hs := h.fr ((Fr.refl _ _).alloc o)
theorem StL.skip {w W : World} {B g gs gc k : Nat} {S : Sto} {R : RSt} {sh : Value} {hs : List Rh} (h : StL w W B g gs gc S R k sh hs) (h0 : S.cell k = ⟨#[]⟩) : StL w W B g gs gc S R (k + 1) sh hs := by
  refine ⟨h.s, h.t, by rw [stH_empty S k h0]; exact h.r, fun j hj => ?_, h.b, h.f, h.gl, h.bl⟩
  by_cases e : j = k
  · subst e
    have hz : ofC (S.cell j) = zCl := by unfold ofC; rw [h0]; rfl
    exact ⟨.inl (by rw [h0]; rfl), fun hn => absurd (by rw [hz]; rfl) hn⟩
  · exact h.ok j (by omega)
theorem StL.add {w W : World} {B g gs gc k : Nat} {S : Sto} {R : RSt} {sh : Value} {hs : List Rh} (h : StL w W B g gs gc S R k sh hs) (x : Rh) (hx : x.pos = k) (hr : HRel x ⟨ofC (S.cell k), (ofC (S.cell k)).res⟩) (hk : k < 8) (hc : CellOk S k) (hno : ∀ j, j < 8 → ¬ hit (stH S k) x.id j)
    (gn capn : Nat) (wn : World) (o2 : Obj) (hG : wn.ownsRow B 173 11 (.slice (some ⟨gn, 0, none⟩) (hs.length + 1) capn) (hs.length + 1) (rhL hs ++ (rhA x).toList) ∧ (W.alloc o2).drew.grownBy wn sh.ownBlock ∧ (sh.ownBlock = some gn ∨ gn = W.heap.size + 1) ∧ gn < wn.heap.size) :
    StL w (wn.setCell ⟨g, 3, none⟩ (.slice (some ⟨gn, 0, none⟩) (hs.length + 1) capn)) B g gs gc S R (k + 1) (.slice (some ⟨gn, 0, none⟩) (hs.length + 1) capn) (hs ++ [x]) := by
  obtain ⟨ho, hgr, hat, hlt⟩ := hG
  have F9 : Fr sh.ownBlock.toList (W.alloc o2).drew wn := Fr.of_grown hgr (by simp)
  have F8 : Fr sh.ownBlock.toList W wn := ((Fr.refl _ W).alloc o2).drew.trans F9
  have F10 : Fr [g] wn (wn.setCell ⟨g, 3, none⟩ (.slice (some ⟨gn, 0, none⟩) (hs.length + 1) capn)) := Fr.setCell (Fr.refl _ _) (.inr (by simp)) _
  have nsh : ∀ {b : Nat} {cs : Array Value} {t : TypeId}, W.heap[b]? = some (.cells cs t (0, 0)) → t ≠ 173 → b ∉ sh.ownBlock.toList := by
    intro b cs t hb ht hm
    obtain ⟨cur, hcur⟩ := owns_row h.t.o (show sh.ownBlock = some b by simpa using hm)
    exact ne_rows hb hcur ht rfl
  have hgn := keepRow F8 h.t.r (nsh h.t.r (by decide))
  have hgset : (wn.setCell ⟨g, 3, none⟩ (.slice (some ⟨gn, 0, none⟩) (hs.length + 1) capn)).heap[g]? = some (.cells #[ptr gs, .int .i64 (R.tables + 1 : Nat), .bool false, .slice (some ⟨gn, 0, none⟩) (hs.length + 1) capn] 171 (0, 0)) := by
    simpa using heap_setCell_same wn g 3 _ 171 (.slice (some ⟨gn, 0, none⟩) (hs.length + 1) capn) hgn
  have hne : gn ≠ g := by
    obtain ⟨cur, hcur⟩ := owns_row ho rfl
    exact ne_rows hcur hgn (by decide)
  have n1 := ne_rows h.t.r h.s.r (by decide)
  have n2 := ne_rows h.t.r h.s.c (by decide)
  have y8 := F8.size
  have y0 := h.f.size
  have gl := h.gl
  refine ⟨?_, ⟨hgset, ?_⟩, ?_, ?_, ?_, ?_, h.gl, h.bl⟩
  · exact (h.s.fr F8 (nsh h.s.r (by decide)) (nsh h.s.c (by decide))).fr F10 (by simp; exact fun e => n1 e.symm) (by simp; exact fun e => n2 e.symm)
  · rw [List.length_append, rhL_snoc]
    exact ownsFr ho F10 (fun b hb => by simp only [Value.ownBlock, Option.some.injEq] at hb; subst hb; simp [hne])
  · have h0 : (stH S k x.pos).c.st = 0 := by rw [hx]; unfold stH; rw [if_neg (by omega)]; rfl
    have hadd := h.r.add x ⟨ofC (S.cell k), (ofC (S.cell k)).res⟩ (by omega) h0 hr (fun j hj hst e => hno j hj ⟨hst, by rw [e, hr.id]⟩)
    rw [hx, ← stH_next] at hadd
    exact hadd
  · intro j hj
    by_cases e : j = k
    · subst e; exact hc
    · exact h.ok j (by omega)
  · intro b hb
    simp only [Value.ownBlock, Option.some.injEq] at hb
    subst hb
    rcases hat with h' | h'
    · exact h.b gn h'
    · omega
  · refine ⟨F10.os.trans (F8.os.trans h.f.os), F10.tape.trans (F8.tape.trans h.f.tape), F10.output.trans (F8.output.trans h.f.output), Nat.le_trans (Nat.le_trans y0 y8) F10.size, fun b hb hn => ?_⟩
    rw [F10.block b (by omega) (by simp; omega), F8.block b (by omega) (fun hm => by have := h.b b (by simpa using hm); omega), h.f.block b hb hn]
attribute [local go_sem ↓] al173 stw173 ldw173 bs169w
attribute [local go_sem] run_bs169 run_al173 run_stT173 stN_rh run_ldT173_0 ldN_rh blk_new blk_at blk_old blk_drew blk_setCell blk_setRow alloc_setRow alloc_setCell
set_option maxRecDepth 100000 in
set_option maxHeartbeats 1000000 in
theorem rstart_nil (w : World) : Calls Tryz.prog 65 #[.pointer none] w fun e w' => e = .returned (.tuple #[.pointer none, .int .i64 1]) ∧ w' = w := by
  go_enter Tryz.func65, Tryz.ntmps65
  go_wp2
  go_ret2
  exact ⟨rfl, rfl⟩
theorem StoR.setUT {w : World} {g gc : Nat} {S : Sto} {R : RSt} (h : StoR w g gc S R) : StoR ((w.setCell ⟨g, 5, none⟩ (.int .i64 ((R.tables : Int) + 1))).setCell ⟨g, 4, none⟩ (.int .i64 ((R.tables : Int) + 1))) g gc S (stRe R) := by
  have n := h.ne
  refine ⟨?_, ?_, h.left⟩
  · refine Row.congr (Row.set (Row.set h.r 5 _) 4 _) (fun j hj => ?_)
    rcases (by omega : j = 0 ∨ j = 1 ∨ j = 2 ∨ j = 3 ∨ j = 4 ∨ j = 5) with rfl | rfl | rfl | rfl | rfl | rfl <;> simp [refV, stRe]
  · exact Row.other (Row.other h.c (fun e => n e.symm)) (fun e => n e.symm)
set_option maxRecDepth 100000 in
set_option maxHeartbeats 8000000 in
theorem rstart_any (B gs gc : Nat) (S : Sto) (R : RSt) (hz : ∀ j, j < 8 → (S.cell j).size ≤ 64) (hT : R.tables < 4611686018427387904) (w : World) (hB : B ≤ w.heap.size) (hS : StoR w gs gc S R) :
    Calls Tryz.prog 65 #[ptr gs] w fun e w' => (((∀ j, j < 8 → CellOk S j) ∧ ∃ g sh hs, w.heap.size ≤ g ∧ e = .returned (.tuple #[.pointer (some ⟨g, 0, none⟩), .int .i64 0]) ∧ TabR w' B g gs (R.tables + 1) false sh hs ∧ RelH hs (stH S 8) ∧ ∀ b, sh.ownBlock = some b → w.heap.size ≤ b) ∨
      ((¬ ∀ j, j < 8 → CellOk S j) ∧ e = .returned (.tuple #[.pointer none, .int .i64 9]))) ∧ StoR w' gs gc S (stRe R) ∧ Fr [gs] w w' := by
  have HZ : Hid _ := hz
  clear hz
  have S1 := StoR.setUT hS
  have f4 := Row.frozen hS.r 4
  have f5 := Row.frozen hS.r 5
  have c5 := hS.at5
  have c4 := hS.at4
  have F1 : Fr [gs] w ((w.setCell ⟨gs, 5, none⟩ (.int .i64 ((R.tables : Int) + 1))).setCell ⟨gs, 4, none⟩ (.int .i64 ((R.tables : Int) + 1))) := Fr.setCell (Fr.setCell (Fr.refl _ _) (.inr (by simp)) _) (.inr (by simp)) _
  have T1 : TabR (((w.setCell ⟨gs, 5, none⟩ (.int .i64 ((R.tables : Int) + 1))).setCell ⟨gs, 4, none⟩ (.int .i64 ((R.tables : Int) + 1))).alloc (.cells #[.pointer (some ⟨gs, 0, none⟩), .int .i64 ((R.tables : Int) + 1), .bool false, .slice none 0 0] 171)) B w.heap.size gs (R.tables + 1) false (.slice none 0 0) [] :=
    ⟨heap_of_new _ _ _ (by simp), World.ownsRow_nil _ _ _ _⟩
  have L0 : StL w (((w.setCell ⟨gs, 5, none⟩ (.int .i64 ((R.tables : Int) + 1))).setCell ⟨gs, 4, none⟩ (.int .i64 ((R.tables : Int) + 1))).alloc (.cells #[.pointer (some ⟨gs, 0, none⟩), .int .i64 ((R.tables : Int) + 1), .bool false, .slice none 0 0] 171)) B w.heap.size gs gc S R 0 (.slice none 0 0) [] :=
    ⟨S1.fr ((Fr.refl [] _).alloc _) (by simp) (by simp), T1, RelH.none S, fun j hj => by omega, fun b hb => by simp [Value.ownBlock] at hb, F1.alloc _, Nat.le_refl _, hB⟩
  have HL : Hid _ := L0
  clear S1 L0 F1 T1 hS
  unfold ptr
  go_enter Tryz.func65, Tryz.ntmps65
  go_wp2
  obtain ⟨g, hg⟩ : ∃ g, w.heap.size = g := ⟨_, rfl⟩
  have hL0 := HL.out
  rw [hg] at hL0 ⊢
  clear HL c4 c5 f4 f5
  go_loopw [5, 6, 7, 8] (fun i _ _ _ wr => ∃ (k : Nat) (sh : Value) (hs : List Rh), k ≤ 8 ∧ i = .int .i64 k ∧ StL w wr B g gs gc S R k sh hs) (fun i _ _ _ _ => 8 - (intOf i).toNat)
  case atStart => exact ⟨0, _, _, by omega, rfl, hL0⟩
  case round =>
    clear hL0
    obtain ⟨k, sh, hs, hk, rfl, hL⟩ := hrel
    have hat0 := hL.s.at0
    by_cases hk8 : k < 8
    · have hck := Row.cell hL.s.c k hk8
      by_cases h0 : S.cell k = ⟨#[]⟩
      · have hL2 := hL.skip h0
        have HL2 : Hid _ := hL2
        rw [h0] at hck
        clear hL hL2 h0
        go_wp2
        exact ⟨⟨k + 1, _, _, by omega, by go_num, HL2.out⟩, by simp [intOf]; omega⟩
      · have e0 : (S.cell k).toList.isEmpty = false := by
          rw [List.isEmpty_eq_false_iff]
          intro e
          apply h0
          rw [ByteArray.toList_eq] at e
          refine (empty_iff _).1 ?_
          show (S.cell k).data.size = 0
          rw [← Array.length_toList, e]
          rfl
        have hz0 : (S.cell k).size ≠ 0 := fun e => h0 ((empty_iff _).1 e)
        have hrd := fun W => rread_any (S.cell k) k (HZ.out k hk8) hz0 W
        have HRD : Hid _ := hrd
        have HL1 : Hid _ := hL
        clear hrd hL h0 hz0
        go_wp2_with fail
        refine (HRD.out _).mono ?_
        rintro e w1 ⟨⟨x, b, rfl, hb, hx⟩, b1⟩
        have L1 := HL1.out.below b1
        have L2 := L1.alloc (.cells (rhA x) 173)
        have r2 : (w1.alloc (.cells (rhA x) 173)).heap[w1.heap.size]? = some (.cells (rhA x) 173 (0, 0)) := heap_of_new _ _ _ rfl
        have hfi := rfind_any B g gs (R.tables + 1) false sh hs x.id L2.r.le _ L2.t
        unfold rhA at L2 r2 hfi
        unfold ptr at hfi
        unfold rhA
        have HFI : Hid _ := hfi
        have HL2 : Hid _ := L2
        have HL1' : Hid _ := L1
        have HX : Hid _ := And.intro hb hx
        have HR2 : Hid _ := r2
        clear b1 L1 L2 hfi hb hx HL1 HRD hat0 hck e0 r2
        go_wp2_with fail
        refine Calls.mono HFI.out ?_
        rintro e w2 ⟨⟨r, hr, rfl⟩, hw2⟩
        rw [hw2]
        clear hw2 w2
        have hfind := HL2.out.r.find hr
        have HFD : Hid _ := hfind
        clear hfind hr HFI
        cases b with
        | false =>
          have hbad : ¬ ∀ j, j < 8 → CellOk S j := fun h => by have := HX.out.1.2 (h k hk8).1; simp at this
          have HBAD : Hid _ := hbad
          clear hbad
          go_wp2
          go_ret2
          exact ⟨.inr ⟨HBAD.out, rfl⟩, HL2.out.s, HL2.out.f⟩
        | true =>
          obtain ⟨hxp, hxr⟩ := HX.out.2 rfl
          have hof : ofOk (S.cell k) := HX.out.1.1 rfl
          rcases HFD.out with ⟨kk, hh, rfl, _, p8, _, hit', _⟩ | ⟨rfl, hno⟩
          · have hbad : ¬ ∀ j, j < 8 → CellOk S j := fun h => by
              have h1 := (h k hk8).2 hxr.st
              have h2 := hit'.1
              have h3 := hit'.2
              unfold stH at h2 h3
              by_cases e : hh.pos < k
              · rw [if_pos e] at h2 h3
                refine h1 hh.pos e ⟨h2, ?_⟩
                have h4 := hxr.id
                dsimp only at h3 h4
                omega
              · rw [if_neg e] at h2
                exact h2 rfl
            have HBAD : Hid _ := hbad
            have hge : (0 : Int) ≤ (kk : Int) := by omega
            clear hbad hit' hxp hxr hof p8
            go_wp2
            go_ret2
            exact ⟨.inr ⟨HBAD.out, rfl⟩, HL2.out.s, HL2.out.f⟩
          · have hCO : CellOk S k := by
              refine ⟨hof, fun h0 i hi hh => ?_⟩
              refine hno i (by omega) ⟨?_, ?_⟩
              · unfold stH; rw [if_pos hi]; exact hh.1
              · have h4 := hxr.id
                have h5 := hh.2
                unfold stH; rw [if_pos hi]
                dsimp only at h4 ⊢
                omega
            obtain ⟨gb, hgb⟩ : ∃ gb, gb = w1.heap.size := ⟨_, rfl⟩
            obtain ⟨w6, hw6⟩ : ∃ w6, w6 = w1.alloc (.cells #[.int .i64 x.alg, .int .i64 x.id, .string x.fix, .int .i64 x.seals, .int .i64 x.ahead, .int .i64 x.most, .int .i64 x.res, .bool x.ret, .string x.key, .int .i64 x.pos, .int .i64 x.ctr] 173) := ⟨_, rfl⟩
            have L6 : StL w w6 B g gs gc S R k sh hs := by rw [hw6]; exact HL2.out
            have r6 : w6.heap[gb]? = some (.cells #[.int .i64 x.alg, .int .i64 x.id, .string x.fix, .int .i64 x.seals, .int .i64 x.ahead, .int .i64 x.most, .int .i64 x.res, .bool x.ret, .string x.key, .int .i64 x.pos, .int .i64 x.ctr] 173 (0, 0)) := by rw [hw6, hgb]; exact HR2.out
            have t6 := L6.t
            have lg := HL1'.out.t.lt
            have lsh : ∀ b, sh.ownBlock = some b → b < w1.heap.size := fun b hb => (World.ownsRow.lt HL1'.out.t.o b hb).2
            have hz := info_parts' info173f
            obtain ⟨i0, hi, hz0, hz1, hz2⟩ := hz
            have X0 : w6.drew.heap[gb]? = some (.cells #[.int .i64 x.alg, .int .i64 x.id, .string x.fix, .int .i64 x.seals, .int .i64 x.ahead, .int .i64 x.most, .int .i64 x.res, .bool x.ret, .string x.key, .int .i64 x.pos, .int .i64 x.ctr] 173 (0, 0)) := r6
            have XA : ((w6.alloc (.cells #[.int .i64 x.alg, .int .i64 x.id, .string x.fix, .int .i64 x.seals, .int .i64 x.ahead, .int .i64 x.most, .int .i64 x.res, .bool x.ret, .string x.key, .int .i64 x.pos, .int .i64 x.ctr] 173)).drew).heap[gb]? = some (.cells #[.int .i64 x.alg, .int .i64 x.id, .string x.fix, .int .i64 x.seals, .int .i64 x.ahead, .int .i64 x.most, .int .i64 x.res, .bool x.ret, .string x.key, .int .i64 x.pos, .int .i64 x.ctr] 173 (0, 0)) := keep_alloc _ r6
            have A3 : Hid (w6.drew.cell? ⟨g, 3, none⟩ = some sh) := (cells4' t6.r).2.2.2
            have A3A : Hid ((w6.alloc (.cells #[.int .i64 x.alg, .int .i64 x.id, .string x.fix, .int .i64 x.seals, .int .i64 x.ahead, .int .i64 x.most, .int .i64 x.res, .bool x.ret, .string x.key, .int .i64 x.pos, .int .i64 x.ctr] 173)).drew.cell? ⟨g, 3, none⟩ = some sh) := (cells4' (keep_alloc (.cells #[.int .i64 x.alg, .int .i64 x.id, .string x.fix, .int .i64 x.seals, .int .i64 x.ahead, .int .i64 x.most, .int .i64 x.res, .bool x.ret, .string x.key, .int .i64 x.pos, .int .i64 x.ctr] 173) t6.r)).2.2.2
            have HOW : Hid ((w6.alloc (.cells #[.int .i64 x.alg, .int .i64 x.id, .string x.fix, .int .i64 x.seals, .int .i64 x.ahead, .int .i64 x.most, .int .i64 x.res, .bool x.ret, .string x.key, .int .i64 x.pos, .int .i64 x.ctr] 173)).drew.ownsRow B 173 11 sh hs.length (rhL hs)) := World.ownsRow.alloc t6.o _
            have HNB : Hid ((w6.alloc (.cells #[.int .i64 x.alg, .int .i64 x.id, .string x.fix, .int .i64 x.seals, .int .i64 x.ahead, .int .i64 x.most, .int .i64 x.res, .bool x.ret, .string x.key, .int .i64 x.pos, .int .i64 x.ctr] 173)).drew.heap[w6.heap.size]? = some (.cells #[.int .i64 x.alg, .int .i64 x.id, .string x.fix, .int .i64 x.seals, .int .i64 x.ahead, .int .i64 x.most, .int .i64 x.res, .bool x.ret, .string x.key, .int .i64 x.pos, .int .i64 x.ctr] 173 (0, 0))) := heap_of_new w6 _ _ rfl
            have HLN : Hid (hs.length ≤ 8) := L6.r.le
            have HBB : Hid (B ≤ (w6.alloc (.cells #[.int .i64 x.alg, .int .i64 x.id, .string x.fix, .int .i64 x.seals, .int .i64 x.ahead, .int .i64 x.most, .int .i64 x.res, .bool x.ret, .string x.key, .int .i64 x.pos, .int .i64 x.ctr] 173)).drew.heap.size) := by
              have e1 := L6.bl
              have e2 := L6.f.size
              have e3 : (w6.alloc (.cells #[.int .i64 x.alg, .int .i64 x.id, .string x.fix, .int .i64 x.seals, .int .i64 x.ahead, .int .i64 x.most, .int .i64 x.res, .bool x.ret, .string x.key, .int .i64 x.pos, .int .i64 x.ctr] 173)).drew.heap.size = w6.heap.size + 1 := size_alloc w6 _
              show B ≤ _
              rw [e3]
              omega
            have HSZ : Hid ((w6.alloc (.cells #[.int .i64 x.alg, .int .i64 x.id, .string x.fix, .int .i64 x.seals, .int .i64 x.ahead, .int .i64 x.most, .int .i64 x.res, .bool x.ret, .string x.key, .int .i64 x.pos, .int .i64 x.ctr] 173)).drew.heap.size = w6.heap.size + 1) := size_alloc w6 _
            have HGB : Hid (gb ≠ g) := by show gb ≠ g; omega
            have HGR : Hid (∀ gn capn wn, (wn.ownsRow B 173 11 (.slice (some ⟨gn, 0, none⟩) (hs.length + 1) capn) (hs.length + 1) (rhL hs ++ (rhA x).toList) ∧ (w6.alloc (.cells #[.int .i64 x.alg, .int .i64 x.id, .string x.fix, .int .i64 x.seals, .int .i64 x.ahead, .int .i64 x.most, .int .i64 x.res, .bool x.ret, .string x.key, .int .i64 x.pos, .int .i64 x.ctr] 173)).drew.grownBy wn sh.ownBlock ∧ (sh.ownBlock = some gn ∨ gn = w6.heap.size + 1) ∧ gn < wn.heap.size) → wn.heap[gb]? = some (.cells #[.int .i64 x.alg, .int .i64 x.id, .string x.fix, .int .i64 x.seals, .int .i64 x.ahead, .int .i64 x.most, .int .i64 x.res, .bool x.ret, .string x.key, .int .i64 x.pos, .int .i64 x.ctr] 173 (0, 0)) ∧ wn.heap[g]? = some (.cells #[ptr gs, .int .i64 (R.tables + 1 : Nat), .bool false, sh] 171 (0, 0))) := by
              rintro gn capn wn ⟨_, hgr, _⟩
              have F9 : Fr sh.ownBlock.toList _ wn := Fr.of_grown hgr (by simp)
              refine ⟨keepRow F9 XA ?_, keepRow F9 (show ((w6.alloc (.cells #[.int .i64 x.alg, .int .i64 x.id, .string x.fix, .int .i64 x.seals, .int .i64 x.ahead, .int .i64 x.most, .int .i64 x.res, .bool x.ret, .string x.key, .int .i64 x.pos, .int .i64 x.ctr] 173)).drew).heap[g]? = _ from keep_alloc _ t6.r) ?_⟩
              · intro hm
                have := lsh gb (by simpa using hm)
                omega
              · intro hm
                obtain ⟨cur, hcur⟩ := owns_row t6.o (show sh.ownBlock = some g by simpa using hm)
                exact ne_rows t6.r hcur (by decide) rfl
            have HAP : Hid (∀ gn capn wn, (wn.ownsRow B 173 11 (.slice (some ⟨gn, 0, none⟩) (hs.length + 1) capn) (hs.length + 1) (rhL hs ++ (rhA x).toList) ∧ (w6.alloc (.cells #[.int .i64 x.alg, .int .i64 x.id, .string x.fix, .int .i64 x.seals, .int .i64 x.ahead, .int .i64 x.most, .int .i64 x.res, .bool x.ret, .string x.key, .int .i64 x.pos, .int .i64 x.ctr] 173)).drew.grownBy wn sh.ownBlock ∧ (sh.ownBlock = some gn ∨ gn = w6.heap.size + 1) ∧ gn < wn.heap.size) → StL w (wn.setCell ⟨g, 3, none⟩ (.slice (some ⟨gn, 0, none⟩) (hs.length + 1) capn)) B g gs gc S R (k + 1) (.slice (some ⟨gn, 0, none⟩) (hs.length + 1) capn) (hs ++ [x])) := by
              rintro gn capn wn hG
              exact L6.add x hxp hxr hk8 hCO hno gn capn wn _ hG
            rw [← hgb]
            clear HL1' HL2 HR2 HX HFD hxp hxr hof hno hCO r6 L6 t6 lg lsh hgb
            rw [← hw6]
            clear hw6
            go_wp2_with fail
            refine wp_region_held_drew (S := fun W' => W'.heap[gb]? = some (.cells #[.int .i64 x.alg, .int .i64 x.id, .string x.fix, .int .i64 x.seals, .int .i64 x.ahead, .int .i64 x.most, .int .i64 x.res, .bool x.ret, .string x.key, .int .i64 x.pos, .int .i64 x.ctr] 173 (0, 0))) (by kernel_rfl) X0 (fun hHeld => ?_)
            refine tk 0 ?v1 ?y1 ?r1
            case y1 => (intro W' hW; go_simp; try with_reducible rfl)
            try simp only [bitvec_to_nat]
            refine tk 1 ?v2 ?y2 ?r2
            case y2 => (intro W' hW; go_simp; try with_reducible rfl)
            try simp only [bitvec_to_nat]
            refine tk 2 ?v3 ?y3 ?r3
            case y3 => (intro W' hW; go_simp; try with_reducible rfl)
            try simp only [bitvec_to_nat]
            refine tk 3 ?v4 ?y4 ?r4
            case y4 => (intro W' hW; go_simp; try with_reducible rfl)
            try simp only [bitvec_to_nat]
            refine tk 5 ?v5 ?y5 ?r5
            case y5 => (intro W' hW; have hb : blk W' gb = _ := hW; go_simp; try with_reducible rfl)
            try simp only [bitvec_to_nat]
            refine wpAnyH_ready (rs := [4, 6]) (by kernel_rfl) (by simp) ?_
            refine AllReadyH.cons rfl (fun K hK => ?_) (AllReadyH.cons rfl (fun K hK => ?_) AllReadyH.nil)
            · have a3 := A3.out
              go_simp
              refine hK.out _ _ X0 (fun hHeld => ?_)
              clear hK K
              refine wpAnyH_ready (rs := [6]) (by kernel_rfl) (by simp) ?_
              refine AllReadyH.cons rfl (fun K hK => ?_) AllReadyH.nil
              go_simp
              refine hK.out _ _ XA (fun hHeld => ?_)
              clear hK K
              refine wpAnyH_ready (rs := [7]) (by kernel_rfl) (by simp) ?_
              refine AllReadyH.cons rfl (fun K hK => ?_) AllReadyH.nil
              refine step_append_lies _ rfl _ _ 169 rfl B 173 i0 _ 11 104 Tryz.underlying169 hi hz0 hz1 hz2 rfl (by decide) _ hs.length (rhL hs) rfl HOW.out ⟨w6.heap.size, 0, none⟩ 1 1 (rhA x).toList rfl rfl (World.news_of_block HNB.out) (rhA_one _) (by omega) (by have := HLN.out; unfold maxLen; omega) (by have := HLN.out; omega) HBB.out (w6.heap.size + 1) HSZ.out ?_
              intro gn capn wn hown hgrow hat hltn
              have HG : Hid _ := And.intro hown (And.intro hgrow (And.intro hat hltn))
              clear hown hgrow hat hltn
              have xn := (HGR.out _ _ _ HG.out).1
              have tn := (HGR.out _ _ _ HG.out).2
              have fz := frozen_of_row _ _ 3 _ _ tn
              have n3 := (cells4' tn).2.2.2
              refine hK.out _ _ xn (fun hHeld => ?_)
              clear hK K
              refine tk 8 ?v6 ?y6 ?r6
              case y6 => (intro W' hW; go_simp; try with_reducible rfl)
              try simp only [bitvec_to_nat]
              refine tk 9 ?v7 ?y7 ?r7
              case y7 => (intro W' hW; go_simp; try with_reducible rfl)
              try simp only [bitvec_to_nat]
              refine wpAnyH_ready (rs := [10]) (by kernel_rfl) (by simp) ?_
              refine AllReadyH.cons rfl (fun K hK => ?_) AllReadyH.nil
              go_simp
              refine hK.out _ _ (by rw [heap_skip _ _ _ _ _ HGB.out]; exact xn) (fun hHeld => ?_)
              clear hK K
              refine wpAnyH_done (by kernel_rfl) ?_ _
              have HN : Hid _ := HAP.out _ _ _ HG.out
              clear HG xn tn fz n3
              go_wp2
              exact ⟨⟨k + 1, _, _, by omega, by go_num, HN.out⟩, by simp [intOf]; omega⟩
            · go_simp
              refine hK.out _ _ XA (fun hHeld => ?_)
              clear hK K
              refine wpAnyH_ready (rs := [4]) (by kernel_rfl) (by simp) ?_
              refine AllReadyH.cons rfl (fun K hK => ?_) AllReadyH.nil
              have a3 := A3A.out
              go_simp
              refine hK.out _ _ XA (fun hHeld => ?_)
              clear hK K
              refine wpAnyH_ready (rs := [7]) (by kernel_rfl) (by simp) ?_
              refine AllReadyH.cons rfl (fun K hK => ?_) AllReadyH.nil
              refine step_append_lies _ rfl _ _ 169 rfl B 173 i0 _ 11 104 Tryz.underlying169 hi hz0 hz1 hz2 rfl (by decide) _ hs.length (rhL hs) rfl HOW.out ⟨w6.heap.size, 0, none⟩ 1 1 (rhA x).toList rfl rfl (World.news_of_block HNB.out) (rhA_one _) (by omega) (by have := HLN.out; unfold maxLen; omega) (by have := HLN.out; omega) HBB.out (w6.heap.size + 1) HSZ.out ?_
              intro gn capn wn hown hgrow hat hltn
              have HG : Hid _ := And.intro hown (And.intro hgrow (And.intro hat hltn))
              clear hown hgrow hat hltn
              have xn := (HGR.out _ _ _ HG.out).1
              have tn := (HGR.out _ _ _ HG.out).2
              have fz := frozen_of_row _ _ 3 _ _ tn
              have n3 := (cells4' tn).2.2.2
              refine hK.out _ _ xn (fun hHeld => ?_)
              clear hK K
              refine tk 8 ?v8 ?y8 ?r8
              case y8 => (intro W' hW; go_simp; try with_reducible rfl)
              try simp only [bitvec_to_nat]
              refine tk 9 ?v9 ?y9 ?r9
              case y9 => (intro W' hW; go_simp; try with_reducible rfl)
              try simp only [bitvec_to_nat]
              refine wpAnyH_ready (rs := [10]) (by kernel_rfl) (by simp) ?_
              refine AllReadyH.cons rfl (fun K hK => ?_) AllReadyH.nil
              go_simp
              refine hK.out _ _ (by rw [heap_skip _ _ _ _ _ HGB.out]; exact xn) (fun hHeld => ?_)
              clear hK K
              refine wpAnyH_done (by kernel_rfl) ?_ _
              have HN : Hid _ := HAP.out _ _ _ HG.out
              clear HG xn tn fz n3
              go_wp2
              exact ⟨⟨k + 1, _, _, by omega, by go_num, HN.out⟩, by simp [intOf]; omega⟩
    · have : k = 8 := by omega
      subst this
      have HX : Hid _ := hL
      clear hL hat0
      go_wp2
      go_ret2
      exact ⟨.inl ⟨HX.out.ok, g, sh, hs, by omega, rfl, HX.out.t, HX.out.r, HX.out.b⟩, HX.out.s, HX.out.f⟩
end Go.Proofs.YtgalgjmhdbncbaaGreat
namespace Go.Proofs.YtgalgjmhdbncbaaGreat
open Go.RowKit
attribute [local go_sem ↓] Go.wp_at_zero Go.wp_at_succ

def pickN (c : Int) (n : Nat) : Nat := if c < 0 then (-((c + 1).tmod n)).toNat else (c % n).toNat
theorem pickN_zero (n : Nat) : pickN 0 n = 0 := by simp [pickN]
theorem pickN_lt (c : Int) (n : Nat) (h : 0 < n) : pickN c n < n := by
  unfold pickN
  split
  · rename_i hc
    obtain ⟨r, hr, he⟩ := pick_neg c n h hc
    rw [he]; simpa using hr
  · obtain ⟨r, hr, he⟩ := pick_pos c n h
    rw [he]; simpa using hr
set_option maxHeartbeats 400000 in
theorem lpick_at (c : Int) (n : Nat) (h1 : -9223372036854775808 ≤ c) (h2 : c ≤ 9223372036854775807) (hn : 0 < n) (hn2 : n ≤ 1152921504606846976) (w : World) :
    Calls Tryz.prog 30 #[.int .i64 c, .int .i64 n] w fun e w' => e = .returned (.int .i64 (pickN c n)) ∧ w' = w := by
  by_cases hc : c < 0
  · obtain ⟨r, hr, he⟩ := pick_neg c n hn hc
    have hp : pickN c n = r := by unfold pickN; rw [if_pos hc, he]; simp
    rw [hp]
    have HE : Hid _ := he
    clear he hp
    go_enter Tryz.func30, Tryz.ntmps30
    go_wp2
    go_ret
    exact ⟨by rw [← HE.out]; rfl, rfl⟩
  · obtain ⟨r, hr, he⟩ := pick_pos c n hn
    have hp : pickN c n = r := by unfold pickN; rw [if_neg hc, he]; simp
    rw [hp]
    have HE : Hid _ := he
    clear he hp
    go_enter Tryz.func30, Tryz.ntmps30
    go_wp2
    go_ret
    exact ⟨by rw [← HE.out]; rfl, rfl⟩
theorem info81 : (Tryz.prog.info? 81).map (fun i => (i.zero, i.size, i.bytes)) = some (some (.agg #[.pointer none, .pointer none]), 2, 16) := by kernel_rfl
structure StP (w w' : World) (B gw : Nat) (sv sr sg sw : Value) (rs : List Rg) (i : Nat) (v : Vt) (v' : Vt) (add : List Rg) (sr' : Value) : Prop where
  f1 : v'.gx = v.gx
  f2 : v'.gr = v.gr
  f3 : v'.gc = v.gc
  S : StoB w' v.gx v.gr v.gc v'.S v'.R
  cell : v'.S.cell = v.S.cell
  left : v'.S.left = v.S.left
  us : v'.R.user = v.R.tables + 1
  tn : v'.R.tables = v.R.tables + 1
  wr : v'.R.writes = v.R.writes
  wl : Wld w' gw sv sr' sg sw
  fr : Fr (v.gx :: v.gr :: gw :: sr.ownBlock.toList) w w'
  ad : (add = [] ∧ v'.S.tab = none ∧ ¬ ∀ j, j < 8 → CellOk v.S j) ∨ ∃ r, add = [r] ∧ r.v = i ∧ r.H = stH v.S 8 ∧ v'.S.tab = some r.gx ∧ w.heap.size ≤ r.gx ∧ w.heap.size ≤ r.gr ∧ (∀ b, r.sh.ownBlock = some b → w.heap.size ≤ b) ∧ TabB w' B r.gx r.gr r.num r.fl r.sh r.hs r.H v.gx v.gr v'.S v'.R
  ow : w'.ownsRow B 81 2 sr' (rs ++ add).length (rgL (rs ++ add))
  hb : ∀ b, sr'.ownBlock = some b → sr.ownBlock = some b ∨ w.heap.size ≤ b
set_option maxRecDepth 100000 in
set_option maxHeartbeats 8000000 in
theorem lstart_none (w : World) (gw n : Nat) (sv sr sg sw : Value) (o : OpA) (xs : List Value) (B : Nat) (hon : -9223372036854775808 ≤ o.on ∧ o.on ≤ 9223372036854775807) (hn : n ≤ 1000000000000) (hp : pickN o.on (n + 1) = n) (hw : Wld w gw sv sr sg sw) (ho : w.ownsRow B 77 2 sv n xs) :
    Calls Tryz.prog 31 #[ptr gw, .agg (opC o)] w fun e w' => e = .returned (.bool true) ∧ Fr [] w w' := by
  have F0 : Fr [] w ((w.alloc (.cells (opC o) 54)).alloc (.cells #[.pointer none, .pointer none] 77)) := ((Fr.refl _ _).alloc _).alloc _
  have hpk := fun W => lpick_at o.on (n + 1) hon.1 hon.2 (by omega) (by omega) W
  rw [hp] at hpk
  obtain ⟨c0, c1, c2, c3⟩ := (hw.fr F0 (by simp)).cells
  obtain ⟨p, cap, hsv⟩ : ∃ p cap, sv = .slice p n cap := by
    rcases ho.2 with ⟨h, h0⟩ | ⟨g, cap, cur, h, _⟩
    · exact ⟨none, 0, by rw [h, h0]⟩
    · exact ⟨_, cap, h⟩
  subst hsv
  have HPK : Hid _ := hpk
  clear hpk hw ho hp
  unfold opC at F0 c0 c1 c2 c3
  unfold ptr
  rw [show Value.agg (opC o) = .agg #[.int .i64 o.kind, .int .i64 o.on, .int .i64 o.a, .bool o.yes, .string o.s, .string o.t, .string o.u, .string o.v, .int .i64 o.cs, .int .i64 o.ca, .int .i64 o.cm, .int .i64 o.ra, .int .i64 o.ri, .string o.rn, .string o.rb, .string o.rt] from rfl]
  have HF : Hid _ := F0
  have hs1 := start_nil
  have hs2 := rstart_nil
  have H1 : Hid _ := hs1
  have H2 : Hid _ := hs2
  clear F0 hs1 hs2
  go_enter Tryz.func31, Tryz.ntmps31
  go_wp2_with fail
  refine (HPK.out _).mono ?_
  rintro e w1 ⟨rfl, hw1⟩
  rw [hw1]
  clear hw1 w1
  go_wp2_with fail
  refine (H1.out _).mono ?_
  rintro e w1 ⟨rfl, hw1⟩
  rw [hw1]
  clear hw1 w1
  go_wp2_with fail
  refine (H2.out _).mono ?_
  rintro e w1 ⟨rfl, hw1⟩
  rw [hw1]
  clear hw1 w1
  go_wp2_with fail
  refine (lnum_any 1 _).mono ?_
  rintro e w1 ⟨rfl, hw1⟩
  rw [hw1]
  go_wp2
  go_ret
  exact ⟨rfl, HF.out⟩
set_option maxRecDepth 100000 in
set_option maxHeartbeats 8000000 in
theorem lstart_at (w : World) (B gw i : Nat) (sv sr sg sw : Value) (o : OpA) (vs : List Vt) (rs : List Rg) (v : Vt) (hon : -9223372036854775808 ≤ o.on ∧ o.on ≤ 9223372036854775807) (hn : vs.length ≤ 1000000000000) (hnr : rs.length ≤ 1000000000000) (hp : pickN o.on (vs.length + 1) = i) (hv : vs[i]? = some v) (hw : Wld w gw sv sr sg sw) (ho : w.ownsRow B 77 2 sv vs.length (vtL vs)) (hor : w.ownsRow B 81 2 sr rs.length (rgL rs)) (hBw : B ≤ w.heap.size)
    (hne : ∀ b, sr.ownBlock = some b → b ≠ gw) (Sb : StoB w v.gx v.gr v.gc v.S v.R) (hng : gw ≠ v.gx ∧ gw ≠ v.gr ∧ gw ≠ v.gc) (hnb : ∀ b, sr.ownBlock = some b → b ≠ v.gx ∧ b ≠ v.gr ∧ b ≠ v.gc) (cz : ∀ j, j < 8 → (v.S.cell j).size ≤ 64) (ht : v.R.tables < 4611686018427387904) :
    Calls Tryz.prog 31 #[ptr gw, .agg (opC o)] w fun e w' => e = .returned (.bool true) ∧ ∃ v' add sr', StP w w' B gw sv sr sg sw rs i v v' add sr' := by
  obtain ⟨gv, cap, hsv, _, _⟩ := World.ownsRow.form ho (by have := getE_lt hv; omega)
  have hil := getE_lt hv
  have F0 : Fr [] w ((w.alloc (.cells (opC o) 54)).alloc (.cells #[.pointer none, .pointer none] 77)) := ((Fr.refl _ _).alloc _).alloc _
  have hpk := fun W => lpick_at o.on (vs.length + 1) hon.1 hon.2 (by omega) (by omega) W
  rw [hp] at hpk
  have o0 := ownsFr ho F0 (by simp)
  rw [hsv] at o0
  have he0 : ((w.alloc (.cells (opC o) 54)).alloc (.cells #[.pointer none, .pointer none] 77)).cell? ⟨gv, i * 2, none⟩ = some (.pointer (some ⟨v.gx, 0, none⟩)) := by
    rw [World.ownsRow.cellAt o0 (i * 2) (by omega), vtL_even, hv]; rfl
  have he1 : ((w.alloc (.cells (opC o) 54)).alloc (.cells #[.pointer none, .pointer none] 77)).cell? ⟨gv, i * 2 + 1, none⟩ = some (.pointer (some ⟨v.gr, 0, none⟩)) := by
    rw [World.ownsRow.cellAt o0 (i * 2 + 1) (by omega), vtL_odd, hv]; rfl
  obtain ⟨c0, c1, c2, c3⟩ := (hw.fr F0 (by simp)).cells
  rw [hsv] at c0
  have h1 := fun w h => start_any v.gx v.S (fun j hj => by have := cz j hj; unfold maxLen; omega) w h
  have h2 := fun w hB h => rstart_any B v.gr v.gc v.S v.R cz ht w hB h
  have HPK : Hid _ := hpk
  have H1 : Hid _ := h1
  have H2 : Hid _ := h2
  have HV : Hid _ := And.intro hw (And.intro hor (And.intro Sb (And.intro hBw hnr)))
  have HNE : Hid _ := And.intro hne (And.intro hng hnb)
  clear hpk h1 h2 hw hor Sb hBw hne hng hnb ho o0 F0 hv cz ht hp hsv
  unfold opC at c0 c1 c2 c3 he0 he1
  unfold ptr at *
  rw [show Value.agg (opC o) = .agg #[.int .i64 o.kind, .int .i64 o.on, .int .i64 o.a, .bool o.yes, .string o.s, .string o.t, .string o.u, .string o.v, .int .i64 o.cs, .int .i64 o.ca, .int .i64 o.cm, .int .i64 o.ra, .int .i64 o.ri, .string o.rn, .string o.rb, .string o.rt] from rfl]
  go_enter Tryz.func31, Tryz.ntmps31
  go_wp2_with fail
  refine (HPK.out _).mono ?_
  rintro e w1 ⟨rfl, hw1⟩
  rw [hw1]
  clear hw1 w1
  have F1 : Fr [] w ((w.alloc (.cells #[.int .i64 o.kind, .int .i64 o.on, .int .i64 o.a, .bool o.yes, .string o.s, .string o.t, .string o.u, .string o.v, .int .i64 o.cs, .int .i64 o.ca, .int .i64 o.cm, .int .i64 o.ra, .int .i64 o.ri, .string o.rn, .string o.rb, .string o.rt] 54)).alloc (.cells #[.pointer (some ⟨v.gx, 0, none⟩), .pointer (some ⟨v.gr, 0, none⟩)] 77)) := ((Fr.refl _ _).alloc _).alloc _
  have q1 : ((w.alloc (.cells #[.int .i64 o.kind, .int .i64 o.on, .int .i64 o.a, .bool o.yes, .string o.s, .string o.t, .string o.u, .string o.v, .int .i64 o.cs, .int .i64 o.ca, .int .i64 o.cm, .int .i64 o.ra, .int .i64 o.ri, .string o.rn, .string o.rb, .string o.rt] 54)).alloc (.cells #[.pointer (some ⟨v.gx, 0, none⟩), .pointer (some ⟨v.gr, 0, none⟩)] 77)).heap[w.heap.size + 1]? = some (.cells #[.pointer (some ⟨v.gx, 0, none⟩), .pointer (some ⟨v.gr, 0, none⟩)] 77 (0, 0)) := heap_of_new _ _ _ (by simp)
  have HF1 : Hid _ := And.intro F1 q1
  clear F1 q1
  go_wp2_with fail
  clear c0 c1 c2 c3 he0 he1
  refine (H1.out _ (Row.fr (L := []) HV.out.2.2.1.p HF1.out.1 (by simp))).mono ?_
  rintro e w1 ⟨hcase, f1⟩
  have lx := Row.lt HV.out.2.2.1.p
  have F2 : Fr [v.gx] w w1 := (HF1.out.1.sub (by simp)).trans f1
  obtain ⟨y0, y1⟩ := cells2 (keepRow (g := w.heap.size + 1) f1 HF1.out.2 (by simp; omega))
  have nxr := ne_rows HV.out.2.2.1.r.r HV.out.2.2.1.p (by decide)
  have nxc := ne_rows HV.out.2.2.1.r.c HV.out.2.2.1.p (by decide)
  have s1 := HV.out.2.2.1.r.fr F2 (by simp [nxr]) (by simp [nxc])
  have hB1 : B ≤ w1.heap.size := Nat.le_trans HV.out.2.2.2.1 F2.size
  have h2' := H2.out w1 hB1 s1
  have HH2 : Hid _ := h2'
  have HF2 : Hid _ := And.intro F2 (And.intro nxr nxc)
  clear f1 s1 h2' H1 H2 HF1 F2 nxr nxc
  rcases hcase with ⟨hok, g, hgl, rfl, p1, tp1⟩ | ⟨hbad, rfl, p1⟩
  · have HP : Hid _ := And.intro hok (And.intro hgl (And.intro p1 tp1))
    clear hok hgl p1 tp1
    go_wp2_with fail
    refine Calls.mono HH2.out ?_
    rintro e w2 ⟨⟨hok2, g2, sh, hs, hg2, rfl, t2, rel, hsh⟩ | ⟨hbad2, _⟩, s2, f2⟩
    · have F3 : Fr [v.gx, v.gr] w w2 := (HF2.out.1.sub (by simp)).trans (f2.sub (by simp))
      have nxr := HF2.out.2.1
      have nxc := HF2.out.2.2
      have p2 := Row.fr HP.out.2.2.1 f2 (by simp; omega)
      have ngr : g ≠ v.gr := ne_rows HP.out.2.2.2 (keepRow HF2.out.1 HV.out.2.2.1.r.r (by simp [nxr])) (by decide)
      have tp2 := Row.fr HP.out.2.2.2 f2 (by simp [ngr])
      have W2 := HV.out.1.fr F3 (by have := HNE.out.2.1; simp [this.1, this.2.1])
      have or2 := ownsFr HV.out.2.1 F3 (fun b hb => by have := HNE.out.2.2 b hb; simp [this.1, this.2.1])
      obtain ⟨d0, d1, d2, d3⟩ := W2.cells
      have y2 : w1.heap.size ≤ w2.heap.size := f2.size
      have y1' := HF2.out.1.size
      have HM : Hid _ := And.intro F3 (And.intro p2 (And.intro tp2 (And.intro W2 (And.intro or2 (And.intro s2 (And.intro t2 (And.intro rel (And.intro hsh hg2))))))))
      have hgl := HP.out.2.1
      simp at hgl
      have hz := info_parts' info81
      obtain ⟨i0, hi, hz0, hz1, hz2⟩ := hz
      have hl1 := HV.out.2.2.2.2
      have hB2 : B ≤ w2.heap.size := by omega
      clear f2 F3 p2 tp2 W2 or2 s2 t2 rel hsh HH2 y0 y1 nxr nxc hok2
      go_wp2_with fail
      refine (lnum_any 0 _).mono ?_
      rintro e wq ⟨rfl, hwq⟩
      rw [hwq]
      clear hwq wq
      go_wp2_with (refine wpList_append_lies _ rfl _ _ 45 rfl B 81 i0 _ 2 16 Tryz.underlying45 hi hz0 hz1 hz2 rfl (by decide) sr rs.length (rgL rs) rfl (World.ownsRow.alloc HM.out.2.2.2.2.1 _) ⟨w2.heap.size, 0, none⟩ 1 1 [.pointer (some ⟨g, 0, none⟩), .pointer (some ⟨g2, 0, none⟩)] rfl rfl (World.news_of_block (heap_of_new _ _ _ rfl)) (by simp [Value.oneCell']) (by omega) (by unfold maxLen; omega) (by omega) (by simp; omega) (w2.heap.size + 1) (by simp) ?_; intro gn capn wn hown hgrow hat hltn; have HG : Hid _ := And.intro hown (And.intro hgrow (And.intro hat hltn)); clear hown hgrow hat hltn; have F8 : Fr sr.ownBlock.toList w2 wn := ((Fr.refl _ w2).alloc _).trans (Fr.of_grown HG.out.2.1 (by simp)); have W3 := Wld.fr HM.out.2.2.2.1 F8 (by simp; intro e; exact HNE.out.1 _ e rfl); have fz1 := W3.frozen 1; obtain ⟨x0, x1, x2, x3⟩ := W3.cells)
      go_ret
      obtain ⟨hown, hgrow, hat, hltn⟩ := HG.out
      obtain ⟨F3, p2, tp2, W2, or2, s2, t2, rel, hsh, hg2⟩ := HM.out
      obtain ⟨hng, hnb⟩ := HNE.out.2
      have F10 : Fr [gw] wn (wn.setCell ⟨gw, 1, none⟩ (.slice (some ⟨gn, 0, none⟩) (rs.length + 1) capn)) := Fr.setCell (Fr.refl _ _) (.inr (by simp)) _
      have srl : ∀ b, sr.ownBlock = some b → b < w.heap.size := fun b hb => (World.ownsRow.lt HV.out.2.1 b hb).2
      have lgw := HV.out.1.lt
      have ns : ∀ b, w.heap.size ≤ b → b ∉ sr.ownBlock.toList := fun b hb hm => by
        have := srl b (by simpa using hm)
        omega
      have nv : ∀ b, (b = v.gx ∨ b = v.gr ∨ b = v.gc) → b ∉ sr.ownBlock.toList := fun b hb hm => by
        have := hnb b (by simpa using hm)
        omega
      have p4 := Row.fr (Row.fr p2 F8 (nv _ (.inl rfl))) F10 (by simp; omega)
      have s4 := (s2.fr F8 (nv _ (.inr (.inl rfl))) (nv _ (.inr (.inr rfl)))).fr F10 (by simp; omega) (by simp; omega)
      have tp4 := Row.fr (Row.fr tp2 F8 (ns g (by omega))) F10 (by simp; omega)
      have y1'' := HF2.out.1.size
      have t4 := (t2.fr F8 (ns g2 (by omega)) (fun b hb => ns b (by have := hsh b hb; omega))).fr F10 (by simp; omega) (fun b hb => by have := hsh b hb; simp; omega)
      have hgn : gn ≠ gw := by
        rcases hat with h | h
        · exact HNE.out.1 gn h
        · omega
      have tabB : TabB (wn.setCell ⟨gw, 1, none⟩ (.slice (some ⟨gn, 0, none⟩) (rs.length + 1) capn)) B g g2 (v.R.tables + 1) false sh hs (stH v.S 8) v.gx v.gr { v.S with tab := some g } (stRe v.R) := by
        refine ⟨tp4, t4, rel, ?_, Nat.le_refl _⟩
        show overB false (v.R.tables + 1) (v.R.tables + 1) = true ↔ some g ≠ some g
        unfold overB
        simp
      refine ⟨rfl, ⟨v.gx, v.gr, v.gc, { v.S with tab := some g }, stRe v.R⟩, [⟨g, g2, i, v.R.tables + 1, false, sh, hs, stH v.S 8⟩], .slice (some ⟨gn, 0, none⟩) (rs.length + 1) capn, rfl, rfl, rfl, ⟨p4, ⟨s4.r, s4.c, s4.left⟩, HV.out.2.2.1.l⟩, rfl, rfl, rfl, rfl, rfl, W3.set1 _, ?_, .inr ⟨_, rfl, rfl, rfl, rfl, by show w.heap.size ≤ g; omega, by show w.heap.size ≤ g2; omega, fun b hb => by have := hsh b hb; omega, tabB⟩, ?_, ?_⟩
      · refine ((F3.sub ?_).trans (F8.sub ?_)).trans (F10.sub ?_)
        · intro k hk
          simp only [List.mem_cons, List.not_mem_nil, or_false] at hk
          rcases hk with rfl | rfl <;> simp
        · intro k hk
          simp [hk]
        · intro k hk
          simp only [List.mem_singleton] at hk
          simp [hk]
      · rw [List.length_append, rgL_snoc]
        exact ownsFr hown F10 (fun b hb => by simp only [Value.ownBlock, Option.some.injEq] at hb; subst hb; simp [hgn])
      · intro b hb
        simp only [Value.ownBlock, Option.some.injEq] at hb
        subst hb
        rcases hat with h | h
        · exact .inl h
        · exact .inr (by omega)
    · exact absurd HP.out.1 hbad2
  · have HP : Hid _ := And.intro hbad p1
    clear hbad p1
    go_wp2_with fail
    refine Calls.mono HH2.out ?_
    rintro e w2 ⟨⟨hok2, _⟩ | ⟨_, rfl⟩, s2, f2⟩
    · exact absurd hok2 HP.out.1
    · have F3 : Fr [v.gx, v.gr] w w2 := (HF2.out.1.sub (by simp)).trans (f2.sub (by simp))
      have nxr := HF2.out.2.1
      have p2 := Row.fr HP.out.2 f2 (by simp; omega)
      have W2 := HV.out.1.fr F3 (by have := HNE.out.2.1; simp [this.1, this.2.1])
      have or2 := ownsFr HV.out.2.1 F3 (fun b hb => by have := HNE.out.2.2 b hb; simp [this.1, this.2.1])
      have HM : Hid _ := And.intro F3 (And.intro p2 (And.intro W2 (And.intro or2 s2)))
      clear f2 F3 p2 W2 or2 s2 HH2 y0 y1 nxr
      go_wp2_with fail
      refine (lnum_any 9 _).mono ?_
      rintro e wq ⟨rfl, hwq⟩
      rw [hwq]
      clear hwq wq
      go_wp2
      go_ret
      obtain ⟨F3, p2, W2, or2, s2⟩ := HM.out
      refine ⟨rfl, ⟨v.gx, v.gr, v.gc, { v.S with tab := none }, stRe v.R⟩, [], sr, rfl, rfl, rfl, ⟨p2, ⟨s2.r, s2.c, s2.left⟩, HV.out.2.2.1.l⟩, rfl, rfl, rfl, rfl, rfl, W2, F3.sub (by simp), .inl ⟨rfl, rfl, HP.out.1⟩, by rw [List.append_nil]; exact or2, fun b hb => .inl hb⟩
end Go.Proofs.YtgalgjmhdbncbaaGreat
namespace Go.Proofs.YtgalgjmhdbncbaaGreat
open Go.ChangeShapes Go.WideShapes Go.ChangeAt Go.RowKit

structure OpWf (o : OpA) : Prop where
  on : -9223372036854775808 ≤ o.on ∧ o.on ≤ 9223372036854775807
  a : -9223372036854775808 ≤ o.a ∧ o.a ≤ 9223372036854775807
  cs : -9223372036854775808 ≤ o.cs ∧ o.cs ≤ 9223372036854775807
  ca : -9223372036854775808 ≤ o.ca ∧ o.ca ≤ 9223372036854775807
  cm : -9223372036854775808 ≤ o.cm ∧ o.cm ≤ 9223372036854775807
  s : o.s.size ≤ 140737488351232
  t : o.t.size ≤ 140737488351232
  u : o.u.size ≤ 140737488351232
  v : o.v.size ≤ 140737488351232
  rn : o.rn.size ≤ 140737488351232
  rb : o.rb.size ≤ 140737488351232
  rt : o.rt.size ≤ 140737488351232
def opD (H : Type) (o : OpA) : DataW H := .agg [.lit (.int .i64 o.kind), .lit (.int .i64 o.on), .lit (.int .i64 o.a), .lit (.bool o.yes), .lit (.string o.s.data.toList), .lit (.string o.t.data.toList), .lit (.string o.u.data.toList), .lit (.string o.v.data.toList),
  .agg [.lit (.int .i64 o.cs), .lit (.int .i64 o.ca), .lit (.int .i64 o.cm)], .agg [.lit (.int .i64 o.ra), .lit (.int .i64 o.ri), .lit (.string o.rn.data.toList), .lit (.string o.rb.data.toList), .lit (.string o.rt.data.toList)]]
theorem cells54 : Tryz.prog.cellsOf 54 = 16 := by kernel_rfl
theorem bytes54 : Tryz.prog.bytesOf 54 = 184 := by kernel_rfl
theorem sixteen {cs : List Value} (h : cs.length = 16) : ∃ c0 c1 c2 c3 c4 c5 c6 c7 c8 c9 c10 c11 c12 c13 c14 c15, cs = [c0, c1, c2, c3, c4, c5, c6, c7, c8, c9, c10, c11, c12, c13, c14, c15] := by
  match cs, h with
  | [c0, c1, c2, c3, c4, c5, c6, c7, c8, c9, c10, c11, c12, c13, c14, c15], _ => exact ⟨c0, c1, c2, c3, c4, c5, c6, c7, c8, c9, c10, c11, c12, c13, c14, c15, rfl⟩
set_option maxRecDepth 100000 in
set_option maxHeartbeats 1000000 in
theorem open_op {H : Type} {enc : TypeId × Value → H} {W : World} {base : Nat} {sp : Nat → Bool} {held : Bool} {fuel : Nat} {cs : List Value} {x : DataW H × List MemPlace} (hc : cs.length = 16)
    (h : DataW.trod enc Tryz.prog W base sp held fuel 54 cs = some x) :
    ∃ o : OpA, cs = (opC o).toList ∧ x.1 = opD H o ∧ (Lit.int .i64 o.on).wf = true ∧ (Lit.int .i64 o.a).wf = true ∧ (Lit.int .i64 o.cs).wf = true ∧ (Lit.int .i64 o.ca).wf = true ∧ (Lit.int .i64 o.cm).wf = true := by
  obtain ⟨c0, c1, c2, c3, c4, c5, c6, c7, c8, c9, c10, c11, c12, c13, c14, c15, rfl⟩ := sixteen hc
  obtain ⟨xs, m, rfl, hx, _, hl, hall⟩ := DataW.trod_struct Tryz.underlying54 h
  have h0 := hall 0 _ rfl
  have h1 := hall 1 _ rfl
  have h2 := hall 2 _ rfl
  have h3 := hall 3 _ rfl
  have h4 := hall 4 _ rfl
  have h5 := hall 5 _ rfl
  have h6 := hall 6 _ rfl
  have h7 := hall 7 _ rfl
  have h8 := hall 8 _ rfl
  have h9 := hall 9 _ rfl
  match xs, hl with
  | [x0, x1, x2, x3, x4, x5, x6, x7, x8, x9], _ =>
    have h0 : DataW.trod enc Tryz.prog W base sp held m 3 [c0] = some x0 := h0
    have h1 : DataW.trod enc Tryz.prog W base sp held m 3 [c1] = some x1 := h1
    have h2 : DataW.trod enc Tryz.prog W base sp held m 3 [c2] = some x2 := h2
    have h3 : DataW.trod enc Tryz.prog W base sp held m 4 [c3] = some x3 := h3
    have h4 : DataW.trod enc Tryz.prog W base sp held m 9 [c4] = some x4 := h4
    have h5 : DataW.trod enc Tryz.prog W base sp held m 9 [c5] = some x5 := h5
    have h6 : DataW.trod enc Tryz.prog W base sp held m 9 [c6] = some x6 := h6
    have h7 : DataW.trod enc Tryz.prog W base sp held m 9 [c7] = some x7 := h7
    have h8 : DataW.trod enc Tryz.prog W base sp held m 50 [c8, c9, c10] = some x8 := h8
    have h9 : DataW.trod enc Tryz.prog W base sp held m 52 [c11, c12, c13, c14, c15] = some x9 := h9
    obtain ⟨k, e0, hx0, hw0⟩ := DataW.trod_int Tryz.underlying3 h0
    obtain ⟨on, e1, hx1, hw1⟩ := DataW.trod_int Tryz.underlying3 h1
    obtain ⟨a, e2, hx2, hw2⟩ := DataW.trod_int Tryz.underlying3 h2
    obtain ⟨y, e3, hx3⟩ := DataW.trod_bool Tryz.underlying4 h3
    obtain ⟨s, e4, hx4, hw4⟩ := DataW.trod_string Tryz.underlying9 h4
    obtain ⟨t, e5, hx5, hw5⟩ := DataW.trod_string Tryz.underlying9 h5
    obtain ⟨u, e6, hx6, hw6⟩ := DataW.trod_string Tryz.underlying9 h6
    obtain ⟨v, e7, hx7, hw7⟩ := DataW.trod_string Tryz.underlying9 h7
    obtain ⟨ys, m2, rfl, hy, _, hl2, hall2⟩ := DataW.trod_struct Tryz.underlying50 h8
    have g0 := hall2 0 _ rfl
    have g1 := hall2 1 _ rfl
    have g2 := hall2 2 _ rfl
    obtain ⟨zs, m3, e33, hz, _, hl3, hall3⟩ := DataW.trod_struct Tryz.underlying52 h9
    have f0 := hall3 0 _ rfl
    have f1 := hall3 1 _ rfl
    have f2 := hall3 2 _ rfl
    have f3 := hall3 3 _ rfl
    have f4 := hall3 4 _ rfl
    match ys, hl2, zs, hl3 with
    | [y0, y1, y2], _, [z0, z1, z2, z3, z4], _ =>
      have g0 : DataW.trod enc Tryz.prog W base sp held m2 3 [c8] = some y0 := g0
      have g1 : DataW.trod enc Tryz.prog W base sp held m2 3 [c9] = some y1 := g1
      have g2 : DataW.trod enc Tryz.prog W base sp held m2 3 [c10] = some y2 := g2
      have f0 : DataW.trod enc Tryz.prog W base sp held m3 3 [c11] = some z0 := f0
      have f1 : DataW.trod enc Tryz.prog W base sp held m3 3 [c12] = some z1 := f1
      have f2 : DataW.trod enc Tryz.prog W base sp held m3 9 [c13] = some z2 := f2
      have f3 : DataW.trod enc Tryz.prog W base sp held m3 9 [c14] = some z3 := f3
      have f4 : DataW.trod enc Tryz.prog W base sp held m3 9 [c15] = some z4 := f4
      obtain ⟨i8, e8, hx8, hw8⟩ := DataW.trod_int Tryz.underlying3 g0
      obtain ⟨i9, e9, hx9, hw9⟩ := DataW.trod_int Tryz.underlying3 g1
      obtain ⟨i10, e10, hx10, hw10⟩ := DataW.trod_int Tryz.underlying3 g2
      obtain ⟨i11, e11, hx11, hw11⟩ := DataW.trod_int Tryz.underlying3 f0
      obtain ⟨i12, e12, hx12, hw12⟩ := DataW.trod_int Tryz.underlying3 f1
      obtain ⟨s13, e13, hx13, hw13⟩ := DataW.trod_string Tryz.underlying9 f2
      obtain ⟨s14, e14, hx14, hw14⟩ := DataW.trod_string Tryz.underlying9 f3
      obtain ⟨s15, e15, hx15, hw15⟩ := DataW.trod_string Tryz.underlying9 f4
      simp only [List.cons.injEq, and_true] at e0 e1 e2 e3 e4 e5 e6 e7 e8 e9 e10 e11 e12 e13 e14 e15
      subst e0 e1 e2 e3 e4 e5 e6 e7 e8 e9 e10 e11 e12 e13 e14 e15 hx0 hx1 hx2 hx3 hx4 hx5 hx6 hx7 hx8 hx9 hx10 hx11 hx12 hx13 hx14 hx15
      subst hy hz
      refine ⟨⟨k, on, a, y, s, t, u, v, i8, i9, i10, i11, i12, s13, s14, s15⟩, rfl, ?_, hw1, hw2, hw8, hw9, hw10⟩
      rw [hx]
      rfl
theorem weights_elem {H : Type} {P : Program} {e : TypeId} : ∀ {elems : List (DataW H)} {d : DataW H}, d ∈ elems → ∀ n ∈ d.weights P e, n ∈ DataW.weightsAll P e elems
  | x :: r, d, hd, n, hn => by
    rcases List.mem_cons.1 hd with rfl | h
    · simp [DataW.weightsAll, hn]
    · simp [DataW.weightsAll, weights_elem h n hn]
set_option maxRecDepth 100000 in
theorem op_weights (H : Type) (o : OpA) : ∀ n ∈ [o.s.size, o.t.size, o.u.size, o.v.size, o.rn.size, o.rb.size, o.rt.size], n ∈ (opD H o).weights Tryz.prog 54 := by
  intro n hn
  have e : (opD H o).weights Tryz.prog 54 = [o.s.size, o.t.size, o.u.size, o.v.size, o.rn.size, o.rb.size, o.rt.size] := by
    unfold opD
    simp [DataW.weights, DataW.weightsEach, Tryz.underlying54, Tryz.underlying50, Tryz.underlying52]
    try exact ⟨rfl, rfl, rfl, rfl, rfl, rfl, rfl⟩
  rw [e]; exact hn
set_option maxRecDepth 100000 in
set_option maxHeartbeats 1000000 in
theorem open_script {H : Type} {enc : TypeId × Value → H} {W : World} {v : Value} {d : DataW H} {ps : List MemPlace} {ts : List TypeId} {ds : List (DataW H)} (hs : (DataW.weightsEach Tryz.prog ts ds).all (· ≤ reachBytes) = true) (ht : ts[0]? = some 22) (hd0 : ds[0]? = some d)
    (hval : Value.okWide Tryz.prog W .any 0 22 v) (h : DataW.Trod enc Tryz.prog W 0 (fun _ => true) true 22 v d ps) :
    v = .slice none 0 0 ∨ ∃ (a : Addr) (len cap : Nat) (os : Nat → OpA), v = .slice (some a) len cap ∧ (0 < len → a.block < W.heap.size) ∧ len ≤ 1000000000000 ∧ (∀ i, i < len → OpAt W (a.add (i * 16)) (os i)) ∧ (∀ i, i < len → OpWf (os i)) := by
  obtain ⟨fuel, hf⟩ := h
  have hv : v.cells.toList = [v] := by
    obtain ⟨b, l, c, rfl⟩ := okWide_slice Tryz.underlying22 hval
    rfl
  rw [hv] at hf
  rcases Go.Deep.open_slice Tryz.underlying22 hf with ⟨h1, h2⟩ | ⟨a, len, cap, m, n, D, Pl, h1, _, hlc, _, hm, h2, hel⟩
  · simp only [List.cons.injEq, and_true] at h1
    exact .inl h1
  · simp only [List.cons.injEq, and_true] at h1
    subst h1
    right
    simp only [if_true] at hm
    subst hm
    simp only [Prod.mk.injEq] at h2
    obtain ⟨rfl, rfl⟩ := h2
    rw [cells54] at hel
    have hz := sized_slice hs ht hd0 Tryz.underlying22
    rw [bytes54] at hz
    simp only [List.length_map, List.length_range] at hz
    have hr : reachBytes ≤ 140737488351232 := by decide
    have hz2 := Nat.le_trans hz hr
    clear hz
    have hops : ∀ i, i < len → ∃ o : OpA, OpAt W (a.add (i * 16)) o ∧ D i = opD H o ∧ (Lit.int .i64 o.on).wf = true ∧ (Lit.int .i64 o.a).wf = true ∧ (Lit.int .i64 o.cs).wf = true ∧ (Lit.int .i64 o.ca).wf = true ∧ (Lit.int .i64 o.cm).wf = true := by
      intro i hi
      obtain ⟨cs', hc1, hc2⟩ := hel i (by omega)
      obtain ⟨_, hl, hcell⟩ := World.cells?_some hc1
      obtain ⟨o, e, e2, q⟩ := open_op hl hc2
      refine ⟨o, ?_, e2, q⟩
      intro j v hj
      rw [← e] at hj
      have hjl : j < 16 := by
        rcases Nat.lt_or_ge j 16 with h | h
        · exact h
        · rw [List.getElem?_eq_none (by omega)] at hj; cases hj
      rw [hcell j hjl]; exact hj
    have : Inhabited OpA := ⟨⟨0, 0, 0, false, ⟨#[]⟩, ⟨#[]⟩, ⟨#[]⟩, ⟨#[]⟩, 0, 0, 0, 0, 0, ⟨#[]⟩, ⟨#[]⟩, ⟨#[]⟩⟩⟩
    obtain ⟨os, hos⟩ := Go.Deep.choose_lt hops
    refine ⟨a, len, _, os, rfl, ?_, by omega, fun i hi => (hos i hi).1, fun i hi => ?_⟩
    · intro h0
      have h1 := (hos 0 h0).1 0 _ rfl
      have h2 := World.block_lt_of_cell? _ _ h1
      rwa [add_block, add_block] at h2
    · obtain ⟨_, e, w1, w2, w3, w4, w5⟩ := hos i hi
      have hmem : ∀ n ∈ (opD H (os i)).weights Tryz.prog 54, n ≤ 140737488351232 := by
        intro n hn
        have hD : opD H (os i) ∈ (List.range len).map D := by
          rw [← e]; exact List.mem_map.2 ⟨i, by simpa using hi, rfl⟩
        have hw := weights_elem hD n hn
        have hall := List.all_eq_true.1 hs n (DataW.weights_mem_each ht hd0 n (by
          simp only [DataW.weights, Tryz.underlying22]
          exact List.mem_cons_of_mem _ (List.mem_append_left _ hw)))
        have : n ≤ reachBytes := by simpa using hall
        omega
      have hs7 := fun n hn => hmem n (op_weights H (os i) n hn)
      exact ⟨bounds_i64 w1, bounds_i64 w2, bounds_i64 w3, bounds_i64 w4, bounds_i64 w5, hs7 _ (by simp), hs7 _ (by simp), hs7 _ (by simp), hs7 _ (by simp), hs7 _ (by simp), hs7 _ (by simp), hs7 _ (by simp)⟩
end Go.Proofs.YtgalgjmhdbncbaaGreat
