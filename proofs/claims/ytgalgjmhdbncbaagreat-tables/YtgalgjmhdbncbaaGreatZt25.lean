import Derived.Test.YtgalgjmhdbncbaaGreatZt00
import Derived.Test.YtgalgjmhdbncbaaGreatZt23
import Derived.Test.YtgalgjmhdbncbaaGreatZt24
import Derived.Test.YtgalgjmhdbncbaaGreatZt18
namespace Go.Proofs.YtgalgjmhdbncbaaGreat
attribute [local bitvec_to_nat] Act.put List.getElem_toArray List.getElem_cons_zero List.getElem_cons_succ List.setIfInBounds_toArray List.set_cons_zero List.set_cons_succ
open Go.RowKit
attribute [local go_sem ↓] Go.wp_at_zero Go.wp_at_succ

theorem info9' : (Tryz.prog.info? 9).map (fun i => (i.zero, i.size, i.bytes)) = some (some (.string ⟨#[]⟩), 1, 16) := by kernel_rfl
def BsG (t : TypeId) (n : Nat) (ps : Array (Nat × Value)) : Sem Value := Instr.buildSlice t n ps
theorem bs46w (ps : Array (Nat × Value)) : Instr.buildSlice 46 1 ps = BsG 46 1 ps := rfl
theorem run_bs46 (s : ByteArray) (w : World) : Sem.run Tryz.prog (BsG 46 1 #[(0, .string s)]) w = .ok (.slice (some ⟨w.heap.size, 0, none⟩) 1 1) (w.alloc (.cells #[.string s] 9)) := by kernel_rfl
structure GvA (w2 W : World) (B gw n0 : Nat) (sv sr sg sg' sw : Value) (o : OpA) (gi wi : List ByteArray) (s : ByteArray) : Prop where
  wl : Wld W gw sv sr sg' sw
  og : W.ownsRow B 9 1 sg' (gi ++ [s]).length ((gi ++ [s]).map .string)
  ox : W.ownsRow B 9 1 sw wi.length (wi.map .string)
  op : W.heap[n0 + 1]? = some (.cells (opC o) 54 (0, 0))
  fr : Fr (gw :: sg.ownBlock.toList) w2 W
  bb : ∀ b, sg'.ownBlock = some b → (sg.ownBlock = some b ∨ w2.heap.size ≤ b) ∧ b < W.heap.size ∧ b ≠ gw
  lx : ∀ b, sw.ownBlock = some b → b < w2.heap.size
structure GvB (w2 w' : World) (B gw : Nat) (sv sr sg sg' sw sw' : Value) (gi wi : List ByteArray) (s m : ByteArray) : Prop where
  wl : Wld w' gw sv sr sg' sw'
  og : w'.ownsRow B 9 1 sg' (gi ++ [s]).length ((gi ++ [s]).map .string)
  ox : w'.ownsRow B 9 1 sw' (wi ++ [m]).length ((wi ++ [m]).map .string)
  fr : Fr (gw :: (sg.ownBlock.toList ++ sw.ownBlock.toList)) w2 w'
  b1 : ∀ b, sg'.ownBlock = some b → sg.ownBlock = some b ∨ w2.heap.size ≤ b
  b2 : ∀ b, sw'.ownBlock = some b → sw.ownBlock = some b ∨ w2.heap.size ≤ b
  ne : ∀ b, sg'.ownBlock = some b → sw'.ownBlock ≠ some b
structure Apt (gw : Nat) (sg sw : Value) : Prop where
  a : ∀ b, sg.ownBlock = some b → b ≠ gw
  b : ∀ b, sw.ownBlock = some b → b ≠ gw
  c : ∀ b, sg.ownBlock = some b → sw.ownBlock ≠ some b
theorem GvA.of {w2 wn : World} {B gw n0 gn capn : Nat} {sv sr sg sw : Value} {o : OpA} {gi wi : List ByteArray} {s : ByteArray} (ob : Obj) (hA : Apt gw sg sw) (hw : Wld w2 gw sv sr sg sw) (hox : w2.ownsRow B 9 1 sw wi.length (wi.map .string)) (hop : w2.heap[n0 + 1]? = some (.cells (opC o) 54 (0, 0))) (hsg : ∀ b, sg.ownBlock = some b → b ≠ n0 + 1) (hg0 : gw ≠ n0 + 1)
    (hG : wn.ownsRow B 9 1 (.slice (some ⟨gn, 0, none⟩) (gi.length + 1) capn) (gi.length + 1) (gi.map .string ++ [.string s]) ∧ (w2.alloc ob).grownBy wn sg.ownBlock ∧ (sg.ownBlock = some gn ∨ gn = w2.heap.size + 1) ∧ gn < wn.heap.size) :
    GvA w2 (wn.setCell ⟨gw, 2, none⟩ (.slice (some ⟨gn, 0, none⟩) (gi.length + 1) capn)) B gw n0 sv sr sg (.slice (some ⟨gn, 0, none⟩) (gi.length + 1) capn) sw o gi wi s := by
  obtain ⟨ho, hgr, hat, hlt⟩ := hG
  have F8 : Fr sg.ownBlock.toList w2 wn := ((Fr.refl _ w2).alloc ob).trans (Fr.of_grown hgr (by simp))
  have F10 : Fr [gw] wn (wn.setCell ⟨gw, 2, none⟩ (.slice (some ⟨gn, 0, none⟩) (gi.length + 1) capn)) := Fr.setCell (Fr.refl _ _) (.inr (by simp)) _
  have hwn : Wld wn gw sv sr sg sw := hw.fr F8 (fun hm => hA.a gw (by simpa using hm) rfl)
  have hgn : gn ≠ gw := by
    obtain ⟨cur, hcur⟩ := owns_row ho rfl
    exact ne_rows hcur hwn (by decide)
  refine ⟨hwn.set2 _, ?_, ?_, ?_, ?_, ?_, fun b hb => (World.ownsRow.lt hox b hb).2⟩
  · rw [List.length_append, List.map_append]
    exact ownsFr ho F10 (fun b hb => by simp only [Value.ownBlock, Option.some.injEq] at hb; subst hb; simp [hgn])
  · exact ownsFr (ownsFr hox F8 (fun b hb hm => hA.c b (by simpa using hm) hb)) F10 (fun b hb => by simpa using hA.b b hb)
  · exact keepRow F10 (keepRow F8 hop (fun hm => hsg _ (by simpa using hm) rfl)) (by simp; omega)
  · exact (F8.sub (by intro k hk; exact List.mem_cons_of_mem _ hk)).trans (F10.sub (by simp))
  · intro b hb
    simp only [Value.ownBlock, Option.some.injEq] at hb
    subst hb
    refine ⟨?_, by simpa using hlt, hgn⟩
    rcases hat with h | h
    · exact .inl h
    · exact .inr (by omega)
theorem GvB.of {w2 W wn : World} {B gw n0 gm capm : Nat} {sv sr sg sg' sw : Value} {o : OpA} {gi wi : List ByteArray} {s m : ByteArray} (ob : Obj) (hA : Apt gw sg sw) (h : GvA w2 W B gw n0 sv sr sg sg' sw o gi wi s)
    (hG : wn.ownsRow B 9 1 (.slice (some ⟨gm, 0, none⟩) (wi.length + 1) capm) (wi.length + 1) (wi.map .string ++ [.string m]) ∧ (W.alloc ob).drew.grownBy wn sw.ownBlock ∧ (sw.ownBlock = some gm ∨ gm = W.heap.size + 1) ∧ gm < wn.heap.size) :
    GvB w2 (wn.setCell ⟨gw, 3, none⟩ (.slice (some ⟨gm, 0, none⟩) (wi.length + 1) capm)) B gw sv sr sg sg' sw (.slice (some ⟨gm, 0, none⟩) (wi.length + 1) capm) gi wi s m := by
  obtain ⟨ho, hgr, hat, hlt⟩ := hG
  have F8 : Fr sw.ownBlock.toList W wn := ((Fr.refl _ W).alloc ob).drew.trans (Fr.of_grown hgr (by simp))
  have F10 : Fr [gw] wn (wn.setCell ⟨gw, 3, none⟩ (.slice (some ⟨gm, 0, none⟩) (wi.length + 1) capm)) := Fr.setCell (Fr.refl _ _) (.inr (by simp)) _
  have hwn : Wld wn gw sv sr sg' sw := h.wl.fr F8 (fun hm => hA.b gw (by simpa using hm) rfl)
  have hgm : gm ≠ gw := by
    obtain ⟨cur, hcur⟩ := owns_row ho rfl
    exact ne_rows hcur hwn (by decide)
  have y := h.fr.size
  have nb : ∀ b, sg'.ownBlock = some b → sw.ownBlock ≠ some b := fun b hb e => by
    have := h.lx b e
    rcases (h.bb b hb).1 with h' | h'
    · exact hA.c b h' e
    · omega
  refine ⟨hwn.set3 _, ?_, ?_, ?_, fun b hb => (h.bb b hb).1, ?_, ?_⟩
  · exact ownsFr (ownsFr h.og F8 (fun b hb hm => nb b hb (by simpa using hm))) F10 (fun b hb => by simpa using (h.bb b hb).2.2)
  · rw [List.length_append, List.map_append]
    exact ownsFr ho F10 (fun b hb => by simp only [Value.ownBlock, Option.some.injEq] at hb; subst hb; simp [hgm])
  · refine ((h.fr.sub ?_).trans (F8.sub ?_)).trans (F10.sub (by simp))
    · intro k hk
      simp only [List.mem_cons] at hk
      rcases hk with rfl | hk
      · simp
      · simp [hk]
    · intro k hk
      simp [hk]
  · intro b hb
    simp only [Value.ownBlock, Option.some.injEq] at hb
    subst hb
    rcases hat with h' | h'
    · exact .inl h'
    · exact .inr (by omega)
  · intro b hb e
    simp only [Value.ownBlock, Option.some.injEq] at e
    subst e
    rcases hat with h' | h'
    · exact nb gm hb h'
    · have := (h.bb gm hb).2.1
      omega
attribute [local go_sem ↓] bs46w
attribute [local go_sem] run_bs46
set_option maxRecDepth 100000 in
set_option maxHeartbeats 8000000 in
theorem lwork_seal (w : World) (B gw : Nat) (r : Rg) (v : Vt) (o : OpA) (sv sr sg sw : Value) (gi wi : List ByteArray) (hk : o.kind = 22) (hs : o.s.size ≤ maxLen) (ht : o.t.size ≤ maxLen) (hw : Wld w gw sv sr sg sw) (hog : w.ownsRow B 9 1 sg gi.length (gi.map .string)) (hox : w.ownsRow B 9 1 sw wi.length (wi.map .string)) (hln : gi.length ≤ 1000000000000) (hlw : wi.length ≤ 1000000000000) (hA : Apt gw sg sw)
    (hfr : ∀ b, b = gw ∨ sg.ownBlock = some b ∨ sw.ownBlock = some b → b ∉ (r.gx :: v.gx :: r.gr :: v.gr :: v.gc :: r.sh.ownBlock.toList)) (T : TabB w B r.gx r.gr r.num r.fl r.sh r.hs r.H v.gx v.gr v.S v.R) (Sb : StoB w v.gx v.gr v.gc v.S v.R) (hti : TabIn w v.S) (cz : ∀ j, j < 8 → (v.S.cell j).size ≤ 64) (hB : B ≤ w.heap.size) (hwr : v.R.writes < 4611686018427387904) :
    Calls Tryz.prog 32 #[ptr gw, .agg #[ptr r.gx, ptr r.gr], .agg (opC o)] w fun e w' => e = .returned (.bool true) ∧ ∃ r' v' s c w2, Wrk w w2 B r v r' v' ∧ sealP r.gx v.S r.H o.a o.s o.t s c v'.S r'.H ∧ ((c ≠ 0 ∧ w' = w2) ∨ (c = 0 ∧ ∃ sg' sw', GvB w2 w' B gw sv sr sg sg' sw sw' gi wi s o.s)) := by
  have h1 := fun w h hp ht' => tseal_any r.gx v.gx r.H v.S o.a o.s o.t T.rel.tok T.rel.ctr Sb.l w h hp ht'
  have h2 := fun s c S' H' hP w t h => rseal_any B r.gr v.gr v.gc r.num r.fl r.sh r.hs v.S v.R r.gx r.H o.a o.s o.t s c S' H' hP T.rel T.ov hwr hs ht w t h
  have H1 : Hid _ := h1
  have H2 : Hid _ := h2
  have HTK : Hid _ := T.rel.tok
  have HWL : Hid _ := And.intro hw (And.intro hog hox)
  have HFR : Hid _ := hfr
  have HLN0 : Hid _ := And.intro hln hlw
  have HAP0 : Hid _ := hA
  have lgw := hw.lt
  have lsg : ∀ b, sg.ownBlock = some b → b < w.heap.size := fun b hb => (World.ownsRow.lt hog b hb).2
  have lsw : ∀ b, sw.ownBlock = some b → b < w.heap.size := fun b hb => (World.ownsRow.lt hox b hb).2
  have HLS : Hid _ := And.intro lsg lsw
  have HTL : Hid _ := And.intro T.lt Sb.lt
  clear h1 h2 hw hog hox hfr hln hlw hA lsg lsw
  have F0 : Fr [] w ((w.alloc (.cells #[.pointer (some ⟨r.gx, 0, none⟩), .pointer (some ⟨r.gr, 0, none⟩)] 81)).alloc (.cells #[.int .i64 22, .int .i64 o.on, .int .i64 o.a, .bool o.yes, .string o.s, .string o.t, .string o.u, .string o.v, .int .i64 o.cs, .int .i64 o.ca, .int .i64 o.cm, .int .i64 o.ra, .int .i64 o.ri, .string o.rn, .string o.rb, .string o.rt] 54)) := ((Fr.refl _ _).alloc _).alloc _
  have q0 : ((w.alloc (.cells #[.pointer (some ⟨r.gx, 0, none⟩), .pointer (some ⟨r.gr, 0, none⟩)] 81)).alloc (.cells #[.int .i64 22, .int .i64 o.on, .int .i64 o.a, .bool o.yes, .string o.s, .string o.t, .string o.u, .string o.v, .int .i64 o.cs, .int .i64 o.ca, .int .i64 o.cm, .int .i64 o.ra, .int .i64 o.ri, .string o.rn, .string o.rb, .string o.rt] 54)).heap[w.heap.size]? = some (.cells #[.pointer (some ⟨r.gx, 0, none⟩), .pointer (some ⟨r.gr, 0, none⟩)] 81 (0, 0)) := heap_of_old _ _ _ _ (by simp) (heap_of_new _ _ _ rfl)
  have q1 : ((w.alloc (.cells #[.pointer (some ⟨r.gx, 0, none⟩), .pointer (some ⟨r.gr, 0, none⟩)] 81)).alloc (.cells #[.int .i64 22, .int .i64 o.on, .int .i64 o.a, .bool o.yes, .string o.s, .string o.t, .string o.u, .string o.v, .int .i64 o.cs, .int .i64 o.ca, .int .i64 o.cm, .int .i64 o.ra, .int .i64 o.ri, .string o.rn, .string o.rb, .string o.rt] 54)).heap[w.heap.size + 1]? = some (.cells #[.int .i64 22, .int .i64 o.on, .int .i64 o.a, .bool o.yes, .string o.s, .string o.t, .string o.u, .string o.v, .int .i64 o.cs, .int .i64 o.ca, .int .i64 o.cm, .int .i64 o.ra, .int .i64 o.ri, .string o.rn, .string o.rb, .string o.rt] 54 (0, 0)) := heap_of_new _ _ _ (by simp)
  have lx := Row.lt T.p
  have ly := Row.lt Sb.p
  have HX : Hid _ := And.intro (Row.fr (L := []) T.p F0 (by simp)) (And.intro (Row.fr (L := []) Sb.p F0 (by simp)) (TabIn.fr hti F0 (by simp)))
  have HF0 : Hid _ := F0
  have HQ : Hid _ := And.intro q0 q1
  have HTB : Hid _ := And.intro T (And.intro Sb (And.intro cz hB))
  clear F0 q0 q1 T Sb hti cz hB hwr
  unfold ptr at *
  rw [show Value.agg (opC o) = .agg #[.int .i64 o.kind, .int .i64 o.on, .int .i64 o.a, .bool o.yes, .string o.s, .string o.t, .string o.u, .string o.v, .int .i64 o.cs, .int .i64 o.ca, .int .i64 o.cm, .int .i64 o.ra, .int .i64 o.ri, .string o.rn, .string o.rb, .string o.rt] from rfl]
  rw [hk]
  have HK : Hid _ := hk
  clear hk
  go_enter Tryz.func32, Tryz.ntmps32
  go_wp2_with fail
  refine (H1.out _ HX.out.1 HX.out.2.1 HX.out.2.2).mono ?_
  rintro e w1 ⟨s, c, S', H', rfl, hP, p1, tp1, f1⟩
  have F1 := (HF0.out.sub (L' := [r.gx, v.gx]) (by simp)).trans f1
  have k0 := keepRow (g := w.heap.size) f1 HQ.out.1 (by simp; omega)
  have k1 := keepRow (g := w.heap.size + 1) f1 HQ.out.2 (by simp; omega)
  obtain ⟨y0, y1⟩ := cells2 k0
  obtain ⟨z0, z1, z2, z3, z4, z5, z6, z7, z8, z9, z10, z11, z12, z13, z14, z15⟩ := cellsF (o := { o with kind := 22 }) k1
  dsimp only at z0 z1 z2 z3 z4 z5 z6 z7 z8 z9 z10 z11 z12 z13 z14 z15
  obtain ⟨t1, s1⟩ := TabB.refs HTB.out.1 HTB.out.2.1 F1
  have HM : Hid _ := And.intro hP (And.intro p1 (And.intro tp1 (And.intro F1 (And.intro t1 s1))))
  have y9 := F1.size
  have HK1 : Hid _ := k1
  clear hP p1 tp1 f1 k0 k1 t1 s1 F1 H1 HX HF0 HQ
  go_wp2_with fail
  refine (H2.out s c S' H' HM.out.1 _ HM.out.2.2.2.2.1 HM.out.2.2.2.2.2).mono ?_
  rintro e w2 ⟨rfl, hR⟩
  have k2 : w2.heap[w.heap.size + 1]? = some (.cells (opC { o with kind := 22 }) 54 (0, 0)) := by
    obtain ⟨R', fl', sh', hs', q⟩ := hR
    obtain ⟨⟨_, x2, x3⟩, ⟨_, x5, x6⟩⟩ := HTL.out
    refine keepRow q.fr HK1.out ?_
    simp only [List.mem_cons, not_or, Option.mem_toList]
    refine ⟨by omega, by omega, by omega, fun hm => ?_⟩
    have := x3 _ (by simpa using hm)
    omega
  obtain ⟨r', v', hW, e1, e2⟩ := Wrk.make HTB.out.1 HTB.out.2.1 HTB.out.2.2.1 (SOk.seal HM.out.1 HTK.out) HM.out.2.1 HM.out.2.2.1 HM.out.2.2.2.1 hR
  have hSP : sealP r.gx v.S r.H o.a o.s o.t s c v'.S r'.H := by rw [e1, e2]; exact HM.out.1
  have HR : Hid _ := And.intro hW hSP
  have W2 := HWL.out.1.fr hW.fr (HFR.out gw (.inl rfl))
  have og2 := ownsFr HWL.out.2.1 hW.fr (fun b hb => HFR.out b (.inr (.inl hb)))
  have ox2 := ownsFr HWL.out.2.2 hW.fr (fun b hb => HFR.out b (.inr (.inr hb)))
  have HW2 : Hid _ := And.intro W2 (And.intro og2 (And.intro ox2 k2))
  have y2 := hW.fr.size
  clear hR H2 y0 y1 z0 z1 z2 z3 z4 z5 z6 z7 z8 z9 z10 z11 z12 z13 z14 z15 hW hSP e1 e2 HM HWL W2 og2 ox2 k2 HK1
  by_cases hc : c = 0
  · subst hc
    obtain ⟨d0, d1, d2, d3⟩ := HW2.out.1.cells
    have hz := info_parts' info9'
    obtain ⟨i0, hi, hz0, hz1, hz2⟩ := hz
    have hB2 : B ≤ w2.heap.size := Nat.le_trans HTB.out.2.2.2 y2
    have hl1 := HLN0.out.1
    go_wp2_with (refine wpList_append_lies _ rfl _ _ 46 rfl B 9 i0 _ 1 16 Tryz.underlying46 hi hz0 hz1 hz2 rfl (by decide) sg gi.length (gi.map .string) rfl (World.ownsRow.alloc HW2.out.2.1 _) ⟨w2.heap.size, 0, none⟩ 1 1 [.string s] rfl rfl (World.news_of_block (heap_of_new _ _ _ rfl)) (by simp [Value.oneCell']) (by omega) (by unfold maxLen; omega) (by omega) (by simp; omega) (w2.heap.size + 1) (by simp) ?_; intro gn capn wn hown hgrow hat hltn; have HG : Hid _ := And.intro hown (And.intro hgrow (And.intro hat hltn)); clear hown hgrow hat hltn; have F8 : Fr sg.ownBlock.toList w2 wn := ((Fr.refl _ w2).alloc _).trans (Fr.of_grown HG.out.2.1 (by simp)); have W3 := Wld.fr HW2.out.1 F8 (by simp; intro e; exact HAP0.out.a _ e rfl); have f2 := W3.frozen 2; obtain ⟨x0, x1, x2, x3⟩ := W3.cells)
    have hGA := GvA.of (n0 := w.heap.size) (o := { o with kind := 22 }) _ HAP0.out HW2.out.1 HW2.out.2.2.1 HW2.out.2.2.2 (fun b hb => by have := HLS.out.1 b hb; omega) (by omega) HG.out
    have HGA : Hid _ := hGA
    clear hGA HG F8 W3 f2 x0 x1 x2 x3 d0 d1 d2 d3
    suffices H11 : ∀ W sg', GvA w2 W B gw w.heap.size sv sr sg sg' sw { o with kind := 22 } gi wi s → Code.wp Tryz.prog _ _ _ W from H11 _ _ HGA.out
    clear HGA
    intro W sg' hGA
    have y3 := hGA.fr.size
    have X0 : W.drew.heap[w.heap.size + 1]? = some (.cells (opC { o with kind := 22 }) 54 (0, 0)) := hGA.op
    have XA : ((W.alloc (.cells #[.string o.s] 9)).drew).heap[w.heap.size + 1]? = some (.cells (opC { o with kind := 22 }) 54 (0, 0)) := keep_alloc _ hGA.op
    have A3 : Hid (W.drew.cell? ⟨gw, 3, none⟩ = some sw) := hGA.wl.cells.2.2.2
    have A3A : Hid ((W.alloc (.cells #[.string o.s] 9)).drew.cell? ⟨gw, 3, none⟩ = some sw) := (Wld.cells (keep_alloc (.cells #[.string o.s] 9) hGA.wl)).2.2.2
    have HOW : Hid ((W.alloc (.cells #[.string o.s] 9)).drew.ownsRow B 9 1 sw wi.length (wi.map .string)) := World.ownsRow.alloc hGA.ox _
    have HNB : Hid ((W.alloc (.cells #[.string o.s] 9)).drew.heap[W.heap.size]? = some (.cells #[.string o.s] 9 (0, 0))) := heap_of_new W _ _ rfl
    have HLN : Hid (wi.length ≤ 1000000000000) := HLN0.out.2
    have HBB : Hid (B ≤ (W.alloc (.cells #[.string o.s] 9)).drew.heap.size) := by
      have e3 : (W.alloc (.cells #[.string o.s] 9)).drew.heap.size = W.heap.size + 1 := size_alloc W _
      show B ≤ _
      rw [e3]
      omega
    have HSZ : Hid ((W.alloc (.cells #[.string o.s] 9)).drew.heap.size = W.heap.size + 1) := size_alloc W _
    have HGB : Hid (w.heap.size + 1 ≠ gw) := by show w.heap.size + 1 ≠ gw; omega
    have HGR : Hid (∀ gm capm wn, (wn.ownsRow B 9 1 (.slice (some ⟨gm, 0, none⟩) (wi.length + 1) capm) (wi.length + 1) (wi.map .string ++ [.string o.s]) ∧ (W.alloc (.cells #[.string o.s] 9)).drew.grownBy wn sw.ownBlock ∧ (sw.ownBlock = some gm ∨ gm = W.heap.size + 1) ∧ gm < wn.heap.size) → wn.heap[w.heap.size + 1]? = some (.cells (opC { o with kind := 22 }) 54 (0, 0)) ∧ wn.heap[gw]? = some (.cells #[sv, sr, sg', sw] 48 (0, 0))) := by
      rintro gm capm wn ⟨_, hgr, _⟩
      have F9 : Fr sw.ownBlock.toList _ wn := Fr.of_grown hgr (by simp)
      refine ⟨keepRow F9 XA ?_, keepRow F9 (show ((W.alloc (.cells #[.string o.s] 9)).drew).heap[gw]? = _ from keep_alloc _ hGA.wl) ?_⟩
      · intro hm
        have := HLS.out.2 _ (by simpa using hm)
        omega
      · intro hm
        exact HAP0.out.b gw (by simpa using hm) rfl
    have HAP : Hid (∀ gm capm wn, (wn.ownsRow B 9 1 (.slice (some ⟨gm, 0, none⟩) (wi.length + 1) capm) (wi.length + 1) (wi.map .string ++ [.string o.s]) ∧ (W.alloc (.cells #[.string o.s] 9)).drew.grownBy wn sw.ownBlock ∧ (sw.ownBlock = some gm ∨ gm = W.heap.size + 1) ∧ gm < wn.heap.size) → GvB w2 (wn.setCell ⟨gw, 3, none⟩ (.slice (some ⟨gm, 0, none⟩) (wi.length + 1) capm)) B gw sv sr sg sg' sw (.slice (some ⟨gm, 0, none⟩) (wi.length + 1) capm) gi wi s o.s) := by
      rintro gm capm wn hG
      exact GvB.of _ HAP0.out hGA hG
    clear hGA y3
    refine wp_region_held_drew (S := fun W' => W'.heap[w.heap.size + 1]? = some (.cells (opC { o with kind := 22 }) 54 (0, 0))) (by kernel_rfl) X0 (fun hHeld => ?_)
    refine tk 0 ?v1 ?y1 ?r1
    case y1 => (intro W' hW; go_simp; try with_reducible rfl)
    try simp only [bitvec_to_nat]
    refine tk 1 ?v2 ?y2 ?r2
    case y2 => (intro W' hW; go_simp; try with_reducible rfl)
    try simp only [bitvec_to_nat]
    refine tk 2 ?v3 ?y3 ?r3
    case y3 => (intro W' hW; go_simp; try with_reducible rfl)
    try simp only [bitvec_to_nat]
    refine tk 3 ?v4 ?y4 ?r4
    case y4 => (intro W' hW; go_simp; try with_reducible rfl)
    try simp only [bitvec_to_nat]
    refine tk 5 ?v5 ?y5 ?r5
    case y5 => (intro W' hW; go_simp; try with_reducible rfl)
    try simp only [bitvec_to_nat]
    refine tk 6 ?v6 ?y6 ?r6
    case y6 => (intro W' hW; obtain ⟨z0, z1, z2, z3, z4, z5, z6, z7, z8, z9, z10, z11, z12, z13, z14, z15⟩ := cellsF hW; dsimp only at z4; go_simp; try with_reducible rfl)
    try simp only [bitvec_to_nat]
    refine wpAnyH_ready (rs := [4, 7]) (by kernel_rfl) (by simp) ?_
    refine AllReadyH.cons rfl (fun K hK => ?_) (AllReadyH.cons rfl (fun K hK => ?_) AllReadyH.nil)
    · have a3 := A3.out
      go_simp
      refine hK.out _ _ X0 (fun hHeld => ?_)
      clear hK K
      refine wpAnyH_ready (rs := [7]) (by kernel_rfl) (by simp) ?_
      refine AllReadyH.cons rfl (fun K hK => ?_) AllReadyH.nil
      go_simp
      refine hK.out _ _ XA (fun hHeld => ?_)
      clear hK K
      refine wpAnyH_ready (rs := [8]) (by kernel_rfl) (by simp) ?_
      refine AllReadyH.cons rfl (fun K hK => ?_) AllReadyH.nil
      refine step_append_lies _ rfl _ _ 46 rfl B 9 i0 _ 1 16 Tryz.underlying46 hi hz0 hz1 hz2 rfl (by decide) _ wi.length (wi.map .string) rfl HOW.out ⟨W.heap.size, 0, none⟩ 1 1 [.string o.s] rfl rfl (World.news_of_block HNB.out) (by simp [Value.oneCell']) (by omega) (by have := HLN.out; unfold maxLen; omega) (by have := HLN.out; omega) HBB.out (W.heap.size + 1) HSZ.out ?_
      intro gm capm wn hown hgrow hat hltn
      have HG : Hid _ := And.intro hown (And.intro hgrow (And.intro hat hltn))
      clear hown hgrow hat hltn
      have xn := (HGR.out _ _ _ HG.out).1
      have tn := (HGR.out _ _ _ HG.out).2
      have fz := frozen_of_row _ _ 3 _ _ tn
      have n3 := (cells4' tn).2.2.2
      refine hK.out _ _ xn (fun hHeld => ?_)
      clear hK K
      refine tk 9 ?v7 ?y7 ?r7
      case y7 => (intro W' hW; go_simp; try with_reducible rfl)
      try simp only [bitvec_to_nat]
      refine tk 10 ?v8 ?y8 ?r8
      case y8 => (intro W' hW; go_simp; try with_reducible rfl)
      try simp only [bitvec_to_nat]
      refine wpAnyH_ready (rs := [11]) (by kernel_rfl) (by simp) ?_
      refine AllReadyH.cons rfl (fun K hK => ?_) AllReadyH.nil
      go_simp
      refine hK.out _ _ (by rw [heap_skip _ _ _ _ _ HGB.out]; exact xn) (fun hHeld => ?_)
      clear hK K
      refine wpAnyH_done (by kernel_rfl) ?_ _
      have HFin : Hid _ := HAP.out _ _ _ HG.out
      clear HG xn tn fz n3
      go_wp2_with fail
      refine (lnum_any 0 _).mono ?_
      rintro e w3 ⟨rfl, hw3⟩
      rw [hw3]
      go_wp2
      go_ret
      exact ⟨rfl, r', v', s, 0, w2, HR.out.1, HR.out.2, .inr ⟨rfl, _, _, HFin.out⟩⟩
    · go_simp
      refine hK.out _ _ XA (fun hHeld => ?_)
      clear hK K
      refine wpAnyH_ready (rs := [4]) (by kernel_rfl) (by simp) ?_
      refine AllReadyH.cons rfl (fun K hK => ?_) AllReadyH.nil
      have a3 := A3A.out
      go_simp
      refine hK.out _ _ XA (fun hHeld => ?_)
      clear hK K
      refine wpAnyH_ready (rs := [8]) (by kernel_rfl) (by simp) ?_
      refine AllReadyH.cons rfl (fun K hK => ?_) AllReadyH.nil
      refine step_append_lies _ rfl _ _ 46 rfl B 9 i0 _ 1 16 Tryz.underlying46 hi hz0 hz1 hz2 rfl (by decide) _ wi.length (wi.map .string) rfl HOW.out ⟨W.heap.size, 0, none⟩ 1 1 [.string o.s] rfl rfl (World.news_of_block HNB.out) (by simp [Value.oneCell']) (by omega) (by have := HLN.out; unfold maxLen; omega) (by have := HLN.out; omega) HBB.out (W.heap.size + 1) HSZ.out ?_
      intro gm capm wn hown hgrow hat hltn
      have HG : Hid _ := And.intro hown (And.intro hgrow (And.intro hat hltn))
      clear hown hgrow hat hltn
      have xn := (HGR.out _ _ _ HG.out).1
      have tn := (HGR.out _ _ _ HG.out).2
      have fz := frozen_of_row _ _ 3 _ _ tn
      have n3 := (cells4' tn).2.2.2
      refine hK.out _ _ xn (fun hHeld => ?_)
      clear hK K
      refine tk 9 ?v9 ?y9 ?r9
      case y9 => (intro W' hW; go_simp; try with_reducible rfl)
      try simp only [bitvec_to_nat]
      refine tk 10 ?v10 ?y10 ?r10
      case y10 => (intro W' hW; go_simp; try with_reducible rfl)
      try simp only [bitvec_to_nat]
      refine wpAnyH_ready (rs := [11]) (by kernel_rfl) (by simp) ?_
      refine AllReadyH.cons rfl (fun K hK => ?_) AllReadyH.nil
      go_simp
      refine hK.out _ _ (by rw [heap_skip _ _ _ _ _ HGB.out]; exact xn) (fun hHeld => ?_)
      clear hK K
      refine wpAnyH_done (by kernel_rfl) ?_ _
      have HFin : Hid _ := HAP.out _ _ _ HG.out
      clear HG xn tn fz n3
      go_wp2_with fail
      refine (lnum_any 0 _).mono ?_
      rintro e w3 ⟨rfl, hw3⟩
      rw [hw3]
      go_wp2
      go_ret
      exact ⟨rfl, r', v', s, 0, w2, HR.out.1, HR.out.2, .inr ⟨rfl, _, _, HFin.out⟩⟩
  · have ec : (c == 0) = false := by rw [beq_eq_false_iff_ne]; exact hc
    have HC : Hid _ := hc
    clear hc
    go_wp2_with fail
    refine (lnum_any c _).mono ?_
    rintro e w3 ⟨rfl, hw3⟩
    rw [hw3]
    go_wp2
    go_ret
    exact ⟨rfl, r', v', s, c, w2, HR.out.1, HR.out.2, .inl ⟨HC.out, rfl⟩⟩
end Go.Proofs.YtgalgjmhdbncbaaGreat
namespace Go.Proofs.YtgalgjmhdbncbaaGreat
open Go.RowKit
attribute [local go_sem ↓] Go.wp_at_zero Go.wp_at_succ

def rdH (s : ByteArray) (p : Nat) : Rh := ⟨(sf s 1).toNat, valF (sf s) 2 2, s.extract 4 8, valF (sf s) 8 2, (sf s 10).toNat, (sf s 11).toNat, valF (sf s) 12 2, ((sf s 14).toNat : Int) == 2, s.extract 15 s.size, p, valF (sf s) 12 2⟩
theorem of_toNat (a : UInt8) : UInt8.ofNat a.toNat = a := by simp
theorem val2 (f : Nat → UInt8) (a : Nat) : valF f a 2 = (f a).toNat * 256 + (f (a + 1)).toNat := by simp [valF]
theorem val2_hi (f : Nat → UInt8) (a : Nat) : UInt8.ofNat (valF f a 2 / 256) = f a := by
  rw [val2, show ((f a).toNat * 256 + (f (a + 1)).toNat) / 256 = (f a).toNat by have := (f (a + 1)).toNat_lt; omega, of_toNat]
theorem val2_lo (f : Nat → UInt8) (a : Nat) : UInt8.ofNat (valF f a 2) = f (a + 1) := by
  rw [val2]
  have h : UInt8.ofNat ((f a).toNat * 256 + (f (a + 1)).toNat) = UInt8.ofNat (f (a + 1)).toNat := by
    apply UInt8.toNat_inj.1
    rw [UInt8.toNat_ofNat', UInt8.toNat_ofNat']
    omega
  rw [h, of_toNat]
theorem val2_lt (f : Nat → UInt8) (a : Nat) : valF f a 2 < 65536 := by
  rw [val2]
  have h1 := (f a).toNat_lt
  have h2 := (f (a + 1)).toNat_lt
  omega
theorem rdH_fix (s : ByteArray) (p : Nat) (hs : 15 ≤ s.size) : (rdH s p).fix.size = 4 := by
  show (s.extract 4 8).size = 4
  rw [ByteArray.size_extract]; omega
theorem rdH_key (s : ByteArray) (p : Nat) : (rdH s p).key.size = s.size - 15 := by
  show (s.extract 15 s.size).size = _
  rw [ByteArray.size_extract]; omega
theorem t14_rd (s : ByteArray) (p : Nat) (hs : 15 ≤ s.size) : ∀ j, j < 14 → j ≠ 0 → t14 (rdH s p) j = sf s j := by
  refine c14 (fun h => absurd rfl h) ?_ ?_ ?_ ?_ ?_ ?_ ?_ ?_ ?_ ?_ ?_ ?_ ?_ <;> intro _
  · exact of_toNat _
  · exact val2_hi _ 2
  · exact val2_lo _ 2
  · exact sf_cut s 4 8 0 (by omega) (by omega)
  · exact sf_cut s 4 8 1 (by omega) (by omega)
  · exact sf_cut s 4 8 2 (by omega) (by omega)
  · exact sf_cut s 4 8 3 (by omega) (by omega)
  · exact val2_hi _ 8
  · exact val2_lo _ 8
  · exact of_toNat _
  · exact of_toNat _
  · exact val2_hi _ 12
  · exact val2_lo _ 12
theorem sf_num1 (v : Nat) : sf (numT v 1) 0 = UInt8.ofNat v := by
  rw [show numT v 1 = str 1 (numF v 1) from rfl, sf_str _ _ _ (by omega)]
  simp [numF]
theorem rd_eq (s : ByteArray) (p : Nat) (hs : 15 ≤ s.size) : rhT (rdH s p) = s ↔ sf s 0 = 107 ∧ (((sf s 14).toNat = 2 ∧ s.size = 15) ∨ (sf s 14).toNat = 1) := by
  have hf := rdH_fix s p hs
  have z0 := rhT0_size _ hf
  have a0 : sf (rhT0 (rdH s p)) 0 = 107 := rhT0_at _ hf 0 (by omega)
  have aj : ∀ j, j < 14 → j ≠ 0 → sf (rhT0 (rdH s p)) j = sf s j := fun j hj h0 => (rhT0_at _ hf j hj).trans (t14_rd s p hs j hj h0)
  have hk := rdH_key s p
  have hret : (rdH s p).ret = true ↔ (sf s 14).toNat = 2 := by
    show ((((sf s 14).toNat : Int) == 2) = true) ↔ _
    rw [beq_iff_eq]; omega
  have e14 : ∀ n : Nat, n < 256 → (UInt8.ofNat n = sf s 14 ↔ (sf s 14).toNat = n) := by
    intro n hn
    constructor
    · intro h; rw [← h, UInt8.toNat_ofNat']; omega
    · intro h; rw [← h, of_toNat]
  unfold rhT
  by_cases hr : (rdH s p).ret = true
  · rw [if_pos hr]
    have h2 := hret.1 hr
    have key : ∀ j, sf (rhT0 (rdH s p) ++ numT 2 1) j = if j < 14 then sf (rhT0 (rdH s p)) j else sf (numT 2 1) (j - 14) := fun j => by rw [sf_append, z0]
    constructor
    · intro h
      refine ⟨?_, .inl ⟨h2, ?_⟩⟩
      · have := key 0
        rw [h, if_pos (by omega), a0] at this
        exact this
      · have := congrArg ByteArray.size h
        rw [ByteArray.size_append, z0, numT_size] at this
        exact this.symm
    · rintro ⟨h0, ⟨_, hz⟩ | h1⟩
      · apply bytes_ext
        · rw [ByteArray.size_append, z0, numT_size, hz]
        · intro j hj
          rw [ByteArray.size_append, z0, numT_size] at hj
          rw [key]
          by_cases e : j < 14
          · rw [if_pos e]
            by_cases e0 : j = 0
            · rw [e0, a0, h0]
            · exact aj j e e0
          · have : j = 14 := by omega
            subst this
            rw [if_neg e, sf_num1]
            exact (e14 2 (by omega)).2 h2
      · omega
  · rw [if_neg hr]
    have h2 : ¬ (sf s 14).toNat = 2 := fun h => hr (hret.2 h)
    have key : ∀ j, sf (rhT0 (rdH s p) ++ numT 1 1 ++ (rdH s p).key) j = if j < 15 then (if j < 14 then sf (rhT0 (rdH s p)) j else sf (numT 1 1) (j - 14)) else sf (rdH s p).key (j - 15) := fun j => by rw [sf_append, ByteArray.size_append, z0, numT_size, sf_append, z0]
    constructor
    · intro h
      have k0 := key 0
      rw [h, if_pos (by omega), if_pos (by omega), a0] at k0
      have k14 := key 14
      rw [h, if_pos (by omega), if_neg (by omega), sf_num1] at k14
      exact ⟨k0, .inr ((e14 1 (by omega)).1 k14.symm)⟩
    · rintro ⟨h0, ⟨h3, _⟩ | h1⟩
      · exact absurd h3 h2
      · apply bytes_ext
        · rw [ByteArray.size_append, ByteArray.size_append, z0, numT_size, hk]; omega
        · intro j hj
          rw [ByteArray.size_append, ByteArray.size_append, z0, numT_size, hk] at hj
          rw [key]
          by_cases e5 : j < 15
          · rw [if_pos e5]
            by_cases e : j < 14
            · rw [if_pos e]
              by_cases e0 : j = 0
              · rw [e0, a0, h0]
              · exact aj j e e0
            · have : j = 14 := by omega
              subst this
              rw [if_neg e, sf_num1]
              exact (e14 1 (by omega)).2 h1
          · rw [if_neg e5]
            show sf (s.extract 15 s.size) (j - 15) = _
            rw [sf_cut s 15 s.size (j - 15) (Nat.le_refl _) (by omega), show 15 + (j - 15) = j by omega]
def rdB (s : ByteArray) : Bool := cfgB (valF (sf s) 8 2) (sf s 10).toNat (sf s 11).toNat && ((rhT (rdH s 0)).toList == s.toList) && (if ((sf s 14).toNat : Int) == 2 then decide (1 ≤ (sf s 1).toNat ∧ (sf s 1).toNat ≤ 3) else ((algN (s.extract 15 s.size).size : Int) == ((sf s 1).toNat : Int)) && decide (0 < (sf s 1).toNat)) && decide (valF (sf s) 12 2 ≤ valF (sf s) 8 2)
theorem val1 (f : Nat → UInt8) (a : Nat) : valF f a 1 = (f a).toNat := by simp [valF]
theorem rdC_eq (s : ByteArray) : rdC s 6 = ⟨(sf s 14).toNat, (sf s 1).toNat, valF (sf s) 2 2, s.extract 4 8, valF (sf s) 8 2, (sf s 10).toNat, (sf s 11).toNat, valF (sf s) 12 2, s.extract 15 s.size⟩ := by
  simp [rdC, vk, fA, fZ, val1]
theorem toList_beq (a b : ByteArray) : (a.toList == b.toList) = true ↔ a = b := by
  rw [beq_iff_eq]
  constructor
  · intro h
    rw [ByteArray.toList_eq, ByteArray.toList_eq] at h
    cases a; cases b
    congr 1
    exact Array.toList_inj.1 h
  · rintro rfl; rfl
theorem rdB_iff (s : ByteArray) (hs : 15 ≤ s.size) : rdB s = true ↔ ofOk s := by
  have hk := rdH_key s 0
  have hk2 : (s.extract 15 s.size).size = s.size - 15 := hk
  have he := rd_eq s 0 hs
  unfold rdB ofOk HoldsC
  rw [rdC_eq]
  simp only [Bool.and_eq_true, cfgB_iff, toList_beq, he, decide_eq_true_iff, hk2]
  generalize hA : (sf s 1).toNat = A
  generalize hT : (sf s 14).toNat = T
  have hc : CfgOk (valF (sf s) 8 2 : Nat) A A ↔ CfgOk (valF (sf s) 8 2 : Nat) A A := Iff.rfl
  by_cases h2 : T = 2
  · rw [if_pos (by rw [beq_iff_eq]; omega), decide_eq_true_iff]
    constructor
    · rintro ⟨⟨⟨h1, h3, h4⟩, h5⟩, h6⟩
      refine .inr ⟨hs, h3, h5, h1, h6, .inr ⟨h2, ?_⟩⟩
      omega
    · rintro (h | ⟨_, h3, h5, h1, h6, h7⟩)
      · omega
      · refine ⟨⟨⟨h1, h3, ?_⟩, h5⟩, h6⟩
        omega
  · rw [if_neg (by rw [beq_iff_eq]; omega)]
    simp only [Bool.and_eq_true, decide_eq_true_iff, beq_iff_eq]
    have hal : ∀ n : Nat, ((algN n : Int) = (A : Int) ∧ 0 < A) ↔ (1 ≤ A ∧ A ≤ 3 ∧ n = 8 + 8 * A) := by
      intro n
      unfold algN
      constructor
      · rintro ⟨h1, h0⟩
        split at h1
        · omega
        · split at h1
          · omega
          · split at h1 <;> omega
      · rintro ⟨h1, h3, h4⟩
        refine ⟨?_, by omega⟩
        split
        · omega
        · split
          · omega
          · split <;> omega
    constructor
    · rintro ⟨⟨⟨h1, h3, h4⟩, h5⟩, h6⟩
      obtain ⟨a1, a2, a3⟩ := (hal _).1 h5
      refine .inr ⟨hs, h3, ⟨a1, a2⟩, h1, h6, .inl ⟨?_, a3⟩⟩
      omega
    · rintro (h | ⟨_, h3, h5, h1, h6, h7⟩)
      · omega
      · refine ⟨⟨⟨h1, h3, ?_⟩, (hal _).2 ⟨h5.1, h5.2, ?_⟩⟩, h6⟩
        · omega
        · omega
theorem rdB_rel (s : ByteArray) (p : Nat) (hs : 15 ≤ s.size) (hz : s.size ≤ 64) (h : ofOk s) : HRel (rdH s p) ⟨ofC s, (ofC s).res⟩ := by
  have hk := rdH_key s p
  have hk2 : (s.extract 15 s.size).size = s.size - 15 := hk
  have e : ofC s = rdC s 6 := by unfold ofC; rw [if_neg (by omega)]
  rcases h with h | ⟨_, _, hC⟩
  · omega
  rw [e]
  rw [rdC_eq] at hC ⊢
  obtain ⟨h1, h2, h3, h4⟩ := hC
  have hI := val2_lt (sf s) 2
  refine ⟨rfl, rfl, rfl, rfl, rfl, rfl, rfl, ?_, fun _ => rfl, rfl, by omega, ⟨?_, h1, ?_, ?_, h2, h3, ?_⟩, Nat.le_refl _⟩
  · show (((sf s 14).toNat : Int) == 2) = decide ((sf s 14).toNat = 2)
    rw [Bool.eq_iff_iff, beq_iff_eq, decide_eq_true_iff]; omega
  · rcases h4 with ⟨h, _⟩ | ⟨h, _⟩
    · exact .inl h
    · exact .inr h
  · show valF (sf s) 2 2 ≤ 65535
    omega
  · exact rdH_fix s p hs
  · show (s.extract 15 s.size).size = if (sf s 14).toNat = 1 then 8 + 8 * (sf s 1).toNat else 0
    rcases h4 with ⟨h, h5⟩ | ⟨h, h5⟩
    · rw [if_pos h]; exact h5
    · rw [if_neg (by dsimp only at h; omega)]; exact h5

theorem bd173 (ps : Array (Nat × Value)) : Instr.build 173 ps = Bd 173 ps := rfl
theorem run_bd173 (w : World) : Sem.run Tryz.prog (Bd 173 #[]) w = .ok (.agg #[.int .i64 0, .int .i64 0, .string ⟨#[]⟩, .int .i64 0, .int .i64 0, .int .i64 0, .int .i64 0, .bool false, .string ⟨#[]⟩, .int .i64 0, .int .i64 0]) w := by kernel_rfl
attribute [local go_sem ↓] al173 stw173 bd173
attribute [local go_sem] run_al173 run_stT173 stN_rh run_bd173 blk_new blk_at blk_old blk_drew blk_setCell blk_setRow alloc_setRow
def zRh : Rh := ⟨0, 0, ⟨#[]⟩, 0, 0, 0, 0, false, ⟨#[]⟩, 0, 0⟩
set_option maxRecDepth 100000 in
set_option maxHeartbeats 4000000 in
theorem rread_short (s : ByteArray) (p : Nat) (hs : s.size < 15) (w : World) : Calls Tryz.prog 100 #[.string s, .int .i64 p] w fun e w' => e = .returned (.tuple #[.agg (rhA zRh), .bool false]) ∧ Below w.heap.size w w' := by
  go_enter Tryz.func100, Tryz.ntmps100
  go_wp2
  refine bodyPost_ret (res173 Tryz.results100 _ _ w.heap.size (rhA zRh) _ rfl rfl rfl (heap_of_new _ _ _ rfl)) rfl ⟨rfl, ?_⟩
  exact (Below.refl _ _).alloc (Nat.le_refl _) _
theorem rread_any (s : ByteArray) (p : Nat) (hz : s.size ≤ 64) (h0 : s.size ≠ 0) (w : World) : Calls Tryz.prog 100 #[.string s, .int .i64 p] w fun e w' => (∃ (x : Rh) (b : Bool), e = .returned (.tuple #[.agg (rhA x), .bool b]) ∧ (b = true ↔ ofOk s) ∧ (b = true → x.pos = p ∧ HRel x ⟨ofC s, (ofC s).res⟩)) ∧ Below w.heap.size w w' := by
  by_cases hs : 15 ≤ s.size
  · have hI := val2_lt (sf s) 2
    have hSe := val2_lt (sf s) 8
    have hR := val2_lt (sf s) 12
    have u1 := (sf s 1).toNat_lt
    have u2 := (sf s 10).toNat_lt
    have u3 := (sf s 11).toNat_lt
    refine Calls.mono (read_mid s _ _ _ (rdB s) (rdH s p) rfl hs hz rfl rfl rfl rfl rfl rfl rfl rfl rfl u1 u2 u3 hI hSe hR rfl rfl rfl ?_ w) ?_
    · unfold rdB
      rfl
    · rintro e w' ⟨rfl, hb⟩
      exact ⟨⟨_, _, rfl, rdB_iff s hs, fun h => ⟨rfl, rdB_rel s p hs hz ((rdB_iff s hs).1 h)⟩⟩, hb⟩
  · refine Calls.mono (rread_short s p (by omega) w) ?_
    rintro e w' ⟨rfl, hb⟩
    refine ⟨⟨_, _, rfl, ⟨fun h => (by cases h), fun h => ?_⟩, fun h => (by cases h)⟩, hb⟩
    rcases h with h | ⟨h, _⟩
    · omega
    · omega
end Go.Proofs.YtgalgjmhdbncbaaGreat
