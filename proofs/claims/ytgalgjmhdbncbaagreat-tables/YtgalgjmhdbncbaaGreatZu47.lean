import Derived.Test.YtgalgjmhdbncbaaGreatZu00
import Derived.Test.YtgalgjmhdbncbaaGreatZu45
import Derived.Test.YtgalgjmhdbncbaaGreatZu46
namespace Go.Proofs.YtgalgjmhdbncbaaGreat
open Go.RowKit
attribute [local go_sem ↓] Go.wp_at_zero Go.wp_at_succ

theorem info9' : (Tryz.prog.info? 9).map (fun i => (i.zero, i.size, i.bytes)) = some (some (.string ⟨#[]⟩), 1, 16) := by kernel_rfl
def BsG (t : TypeId) (n : Nat) (ps : Array (Nat × Value)) : Sem Value := Instr.buildSlice t n ps
theorem bs46w (ps : Array (Nat × Value)) : Instr.buildSlice 46 1 ps = BsG 46 1 ps := rfl
theorem run_bs46 (s : ByteArray) (w : World) : Sem.run Tryz.prog (BsG 46 1 #[(0, .string s)]) w = .ok (.slice (some ⟨w.heap.size, 0, none⟩) 1 1) (w.alloc (.cells #[.string s] 9)) := by kernel_rfl
structure GvA (w2 W : World) (B gw n0 : Nat) (sv sr sg sg' sw : Value) (o : OpA) (gi wi : List ByteArray) (s : ByteArray) : Prop where
  wl : Wld W gw sv sr sg' sw
  og : W.ownsRow B 9 1 sg' (gi ++ [s]).length ((gi ++ [s]).map .string)
  ox : W.ownsRow B 9 1 sw wi.length (wi.map .string)
  op : W.heap[n0 + 1]? = some (.cells (opC o) 54 (0, 0))
  fr : Fr (gw :: sg.ownBlock.toList) w2 W
  bb : ∀ b, sg'.ownBlock = some b → (sg.ownBlock = some b ∨ w2.heap.size ≤ b) ∧ b < W.heap.size ∧ b ≠ gw
  lx : ∀ b, sw.ownBlock = some b → b < w2.heap.size
structure GvB (w2 w' : World) (B gw : Nat) (sv sr sg sg' sw sw' : Value) (gi wi : List ByteArray) (s m : ByteArray) : Prop where
  wl : Wld w' gw sv sr sg' sw'
  og : w'.ownsRow B 9 1 sg' (gi ++ [s]).length ((gi ++ [s]).map .string)
  ox : w'.ownsRow B 9 1 sw' (wi ++ [m]).length ((wi ++ [m]).map .string)
  fr : Fr (gw :: (sg.ownBlock.toList ++ sw.ownBlock.toList)) w2 w'
  b1 : ∀ b, sg'.ownBlock = some b → sg.ownBlock = some b ∨ w2.heap.size ≤ b
  b2 : ∀ b, sw'.ownBlock = some b → sw.ownBlock = some b ∨ w2.heap.size ≤ b
  ne : ∀ b, sg'.ownBlock = some b → sw'.ownBlock ≠ some b
structure Apt (gw : Nat) (sg sw : Value) : Prop where
  a : ∀ b, sg.ownBlock = some b → b ≠ gw
  b : ∀ b, sw.ownBlock = some b → b ≠ gw
  c : ∀ b, sg.ownBlock = some b → sw.ownBlock ≠ some b
theorem GvA.of {w2 wn : World} {B gw n0 gn capn : Nat} {sv sr sg sw : Value} {o : OpA} {gi wi : List ByteArray} {s : ByteArray} (ob : Obj) (hA : Apt gw sg sw) (hw : Wld w2 gw sv sr sg sw) (hox : w2.ownsRow B 9 1 sw wi.length (wi.map .string)) (hop : w2.heap[n0 + 1]? = some (.cells (opC o) 54 (0, 0))) (hsg : ∀ b, sg.ownBlock = some b → b ≠ n0 + 1) (hg0 : gw ≠ n0 + 1)
    (hG : wn.ownsRow B 9 1 (.slice (some ⟨gn, 0, none⟩) (gi.length + 1) capn) (gi.length + 1) (gi.map .string ++ [.string s]) ∧ (w2.alloc ob).grownBy wn sg.ownBlock ∧ (sg.ownBlock = some gn ∨ gn = w2.heap.size + 1) ∧ gn < wn.heap.size) :
    GvA w2 (wn.setCell ⟨gw, 2, none⟩ (.slice (some ⟨gn, 0, none⟩) (gi.length + 1) capn)) B gw n0 sv sr sg (.slice (some ⟨gn, 0, none⟩) (gi.length + 1) capn) sw o gi wi s := by
  obtain ⟨ho, hgr, hat, hlt⟩ := hG
  have F8 : Fr sg.ownBlock.toList w2 wn := ((Fr.refl _ w2).alloc ob).trans (Fr.of_grown hgr (by simp))
  have F10 : Fr [gw] wn (wn.setCell ⟨gw, 2, none⟩ (.slice (some ⟨gn, 0, none⟩) (gi.length + 1) capn)) := Fr.setCell (Fr.refl _ _) (.inr (by simp)) _
  have hwn : Wld wn gw sv sr sg sw := hw.fr F8 (fun hm => hA.a gw (by simpa using hm) rfl)
  have hgn : gn ≠ gw := by
    obtain ⟨cur, hcur⟩ := owns_row ho rfl
    exact ne_rows hcur hwn (by decide)
  refine ⟨hwn.set2 _, ?_, ?_, ?_, ?_, ?_, fun b hb => (World.ownsRow.lt hox b hb).2⟩
  · rw [List.length_append, List.map_append]
    exact ownsFr ho F10 (fun b hb => by simp only [Value.ownBlock, Option.some.injEq] at hb; subst hb; simp [hgn])
  · exact ownsFr (ownsFr hox F8 (fun b hb hm => hA.c b (by simpa using hm) hb)) F10 (fun b hb => by simpa using hA.b b hb)
  · exact keepRow F10 (keepRow F8 hop (fun hm => hsg _ (by simpa using hm) rfl)) (by simp; omega)
  · exact (F8.sub (by intro k hk; exact List.mem_cons_of_mem _ hk)).trans (F10.sub (by simp))
  · intro b hb
    simp only [Value.ownBlock, Option.some.injEq] at hb
    subst hb
    refine ⟨?_, by simpa using hlt, hgn⟩
    rcases hat with h | h
    · exact .inl h
    · exact .inr (by omega)
theorem GvB.of {w2 W wn : World} {B gw n0 gm capm : Nat} {sv sr sg sg' sw : Value} {o : OpA} {gi wi : List ByteArray} {s m : ByteArray} (ob : Obj) (hA : Apt gw sg sw) (h : GvA w2 W B gw n0 sv sr sg sg' sw o gi wi s)
    (hG : wn.ownsRow B 9 1 (.slice (some ⟨gm, 0, none⟩) (wi.length + 1) capm) (wi.length + 1) (wi.map .string ++ [.string m]) ∧ (W.alloc ob).drew.grownBy wn sw.ownBlock ∧ (sw.ownBlock = some gm ∨ gm = W.heap.size + 1) ∧ gm < wn.heap.size) :
    GvB w2 (wn.setCell ⟨gw, 3, none⟩ (.slice (some ⟨gm, 0, none⟩) (wi.length + 1) capm)) B gw sv sr sg sg' sw (.slice (some ⟨gm, 0, none⟩) (wi.length + 1) capm) gi wi s m := by
  obtain ⟨ho, hgr, hat, hlt⟩ := hG
  have F8 : Fr sw.ownBlock.toList W wn := ((Fr.refl _ W).alloc ob).drew.trans (Fr.of_grown hgr (by simp))
  have F10 : Fr [gw] wn (wn.setCell ⟨gw, 3, none⟩ (.slice (some ⟨gm, 0, none⟩) (wi.length + 1) capm)) := Fr.setCell (Fr.refl _ _) (.inr (by simp)) _
  have hwn : Wld wn gw sv sr sg' sw := h.wl.fr F8 (fun hm => hA.b gw (by simpa using hm) rfl)
  have hgm : gm ≠ gw := by
    obtain ⟨cur, hcur⟩ := owns_row ho rfl
    exact ne_rows hcur hwn (by decide)
  have y := h.fr.size
  have nb : ∀ b, sg'.ownBlock = some b → sw.ownBlock ≠ some b := fun b hb e => by
    have := h.lx b e
    rcases (h.bb b hb).1 with h' | h'
    · exact hA.c b h' e
    · omega
  refine ⟨hwn.set3 _, ?_, ?_, ?_, fun b hb => (h.bb b hb).1, ?_, ?_⟩
  · exact ownsFr (ownsFr h.og F8 (fun b hb hm => nb b hb (by simpa using hm))) F10 (fun b hb => by simpa using (h.bb b hb).2.2)
  · rw [List.length_append, List.map_append]
    exact ownsFr ho F10 (fun b hb => by simp only [Value.ownBlock, Option.some.injEq] at hb; subst hb; simp [hgm])
  · refine ((h.fr.sub ?_).trans (F8.sub ?_)).trans (F10.sub (by simp))
    · intro k hk
      simp only [List.mem_cons] at hk
      rcases hk with rfl | hk
      · simp
      · simp [hk]
    · intro k hk
      simp [hk]
  · intro b hb
    simp only [Value.ownBlock, Option.some.injEq] at hb
    subst hb
    rcases hat with h' | h'
    · exact .inl h'
    · exact .inr (by omega)
  · intro b hb e
    simp only [Value.ownBlock, Option.some.injEq] at e
    subst e
    rcases hat with h' | h'
    · exact nb gm hb h'
    · have := (h.bb gm hb).2.1
      omega
attribute [local go_sem ↓] bs46w
attribute [local go_sem] run_bs46
set_option maxRecDepth 100000 in
set_option maxHeartbeats 8000000 in
theorem lwork_seal (w : World) (B gw : Nat) (r : Rg) (v : Vt) (o : OpA) (sv sr sg sw : Value) (gi wi : List ByteArray) (hk : o.kind = 22) (hs : o.s.size ≤ maxLen) (ht : o.t.size ≤ maxLen) (hw : Wld w gw sv sr sg sw) (hog : w.ownsRow B 9 1 sg gi.length (gi.map .string)) (hox : w.ownsRow B 9 1 sw wi.length (wi.map .string)) (hln : gi.length ≤ 1000000000000) (hlw : wi.length ≤ 1000000000000) (hA : Apt gw sg sw)
    (hfr : ∀ b, b = gw ∨ sg.ownBlock = some b ∨ sw.ownBlock = some b → b ∉ (r.gx :: v.gx :: r.gr :: v.gr :: v.gc :: r.sh.ownBlock.toList)) (T : TabB w B r.gx r.gr r.num r.fl r.sh r.hs r.H v.gx v.gr v.S v.R) (Sb : StoB w v.gx v.gr v.gc v.S v.R) (hti : TabIn w v.S) (cz : ∀ j, j < 8 → (v.S.cell j).size ≤ 64) (hB : B ≤ w.heap.size) (hwr : v.R.writes < 4611686018427387904) :
    Calls Tryz.prog 32 #[ptr gw, .agg #[ptr r.gx, ptr r.gr], .agg (opC o)] w fun e w' => e = .returned (.bool true) ∧ ∃ r' v' s c w2, Wrk w w2 B r v r' v' ∧ sealP r.gx v.S r.H o.a o.s o.t s c v'.S r'.H ∧ ((c ≠ 0 ∧ w' = w2) ∨ (c = 0 ∧ ∃ sg' sw', GvB w2 w' B gw sv sr sg sg' sw sw' gi wi s o.s)) := by
  have h1 := fun w h hp ht' => tseal_any r.gx v.gx r.H v.S o.a o.s o.t T.rel.tok T.rel.ctr Sb.l w h hp ht'
  have h2 := fun s c S' H' hP w t h => rseal_any B r.gr v.gr v.gc r.num r.fl r.sh r.hs v.S v.R r.gx r.H o.a o.s o.t s c S' H' hP T.rel T.ov hwr hs ht w t h
  have H1 : Hid _ := h1
  have H2 : Hid _ := h2
  have HTK : Hid _ := T.rel.tok
  have HWL : Hid _ := And.intro hw (And.intro hog hox)
  have HFR : Hid _ := hfr
  have HLN0 : Hid _ := And.intro hln hlw
  have HAP0 : Hid _ := hA
  have lgw := hw.lt
  have lsg : ∀ b, sg.ownBlock = some b → b < w.heap.size := fun b hb => (World.ownsRow.lt hog b hb).2
  have lsw : ∀ b, sw.ownBlock = some b → b < w.heap.size := fun b hb => (World.ownsRow.lt hox b hb).2
  have HLS : Hid _ := And.intro lsg lsw
  have HTL : Hid _ := And.intro T.lt Sb.lt
  clear h1 h2 hw hog hox hfr hln hlw hA lsg lsw
  have F0 : Fr [] w ((w.alloc (.cells #[.pointer (some ⟨r.gx, 0, none⟩), .pointer (some ⟨r.gr, 0, none⟩)] 81)).alloc (.cells #[.int .i64 22, .int .i64 o.on, .int .i64 o.a, .bool o.yes, .string o.s, .string o.t, .string o.u, .string o.v, .int .i64 o.cs, .int .i64 o.ca, .int .i64 o.cm, .int .i64 o.ra, .int .i64 o.ri, .string o.rn, .string o.rb, .string o.rt] 54)) := ((Fr.refl _ _).alloc _).alloc _
  have q0 : ((w.alloc (.cells #[.pointer (some ⟨r.gx, 0, none⟩), .pointer (some ⟨r.gr, 0, none⟩)] 81)).alloc (.cells #[.int .i64 22, .int .i64 o.on, .int .i64 o.a, .bool o.yes, .string o.s, .string o.t, .string o.u, .string o.v, .int .i64 o.cs, .int .i64 o.ca, .int .i64 o.cm, .int .i64 o.ra, .int .i64 o.ri, .string o.rn, .string o.rb, .string o.rt] 54)).heap[w.heap.size]? = some (.cells #[.pointer (some ⟨r.gx, 0, none⟩), .pointer (some ⟨r.gr, 0, none⟩)] 81 (0, 0)) := heap_of_old _ _ _ _ (by simp) (heap_of_new _ _ _ rfl)
  have q1 : ((w.alloc (.cells #[.pointer (some ⟨r.gx, 0, none⟩), .pointer (some ⟨r.gr, 0, none⟩)] 81)).alloc (.cells #[.int .i64 22, .int .i64 o.on, .int .i64 o.a, .bool o.yes, .string o.s, .string o.t, .string o.u, .string o.v, .int .i64 o.cs, .int .i64 o.ca, .int .i64 o.cm, .int .i64 o.ra, .int .i64 o.ri, .string o.rn, .string o.rb, .string o.rt] 54)).heap[w.heap.size + 1]? = some (.cells #[.int .i64 22, .int .i64 o.on, .int .i64 o.a, .bool o.yes, .string o.s, .string o.t, .string o.u, .string o.v, .int .i64 o.cs, .int .i64 o.ca, .int .i64 o.cm, .int .i64 o.ra, .int .i64 o.ri, .string o.rn, .string o.rb, .string o.rt] 54 (0, 0)) := heap_of_new _ _ _ (by simp)
  have lx := Row.lt T.p
  have ly := Row.lt Sb.p
  have HX : Hid _ := And.intro (Row.fr (L := []) T.p F0 (by simp)) (And.intro (Row.fr (L := []) Sb.p F0 (by simp)) (TabIn.fr hti F0 (by simp)))
  have HF0 : Hid _ := F0
  have HQ : Hid _ := And.intro q0 q1
  have HTB : Hid _ := And.intro T (And.intro Sb (And.intro cz hB))
  clear F0 q0 q1 T Sb hti cz hB hwr
  unfold ptr at *
  rw [show Value.agg (opC o) = .agg #[.int .i64 o.kind, .int .i64 o.on, .int .i64 o.a, .bool o.yes, .string o.s, .string o.t, .string o.u, .string o.v, .int .i64 o.cs, .int .i64 o.ca, .int .i64 o.cm, .int .i64 o.ra, .int .i64 o.ri, .string o.rn, .string o.rb, .string o.rt] from rfl]
  rw [hk]
  have HK : Hid _ := hk
  clear hk
  go_enter Tryz.func32, Tryz.ntmps32
  go_wp2_with fail
  refine (H1.out _ HX.out.1 HX.out.2.1 HX.out.2.2).mono ?_
  rintro e w1 ⟨s, c, S', H', rfl, hP, p1, tp1, f1⟩
  have F1 := (HF0.out.sub (L' := [r.gx, v.gx]) (by simp)).trans f1
  have k0 := keepRow (g := w.heap.size) f1 HQ.out.1 (by simp; omega)
  have k1 := keepRow (g := w.heap.size + 1) f1 HQ.out.2 (by simp; omega)
  obtain ⟨y0, y1⟩ := cells2 k0
  obtain ⟨z0, z1, z2, z3, z4, z5, z6, z7, z8, z9, z10, z11, z12, z13, z14, z15⟩ := cellsF (o := { o with kind := 22 }) k1
  dsimp only at z0 z1 z2 z3 z4 z5 z6 z7 z8 z9 z10 z11 z12 z13 z14 z15
  obtain ⟨t1, s1⟩ := TabB.refs HTB.out.1 HTB.out.2.1 F1
  have HM : Hid _ := And.intro hP (And.intro p1 (And.intro tp1 (And.intro F1 (And.intro t1 s1))))
  have y9 := F1.size
  have HK1 : Hid _ := k1
  clear hP p1 tp1 f1 k0 k1 t1 s1 F1 H1 HX HF0 HQ
  go_wp2_with fail
  refine (H2.out s c S' H' HM.out.1 _ HM.out.2.2.2.2.1 HM.out.2.2.2.2.2).mono ?_
  rintro e w2 ⟨rfl, hR⟩
  have k2 : w2.heap[w.heap.size + 1]? = some (.cells (opC { o with kind := 22 }) 54 (0, 0)) := by
    obtain ⟨R', fl', sh', hs', q⟩ := hR
    obtain ⟨⟨_, x2, x3⟩, ⟨_, x5, x6⟩⟩ := HTL.out
    refine keepRow q.fr HK1.out ?_
    simp only [List.mem_cons, not_or, Option.mem_toList]
    refine ⟨by omega, by omega, by omega, fun hm => ?_⟩
    have := x3 _ (by simpa using hm)
    omega
  obtain ⟨r', v', hW, e1, e2⟩ := Wrk.make HTB.out.1 HTB.out.2.1 HTB.out.2.2.1 (SOk.seal HM.out.1 HTK.out) HM.out.2.1 HM.out.2.2.1 HM.out.2.2.2.1 hR
  have hSP : sealP r.gx v.S r.H o.a o.s o.t s c v'.S r'.H := by rw [e1, e2]; exact HM.out.1
  have HR : Hid _ := And.intro hW hSP
  have W2 := HWL.out.1.fr hW.fr (HFR.out gw (.inl rfl))
  have og2 := ownsFr HWL.out.2.1 hW.fr (fun b hb => HFR.out b (.inr (.inl hb)))
  have ox2 := ownsFr HWL.out.2.2 hW.fr (fun b hb => HFR.out b (.inr (.inr hb)))
  have HW2 : Hid _ := And.intro W2 (And.intro og2 (And.intro ox2 k2))
  have y2 := hW.fr.size
  clear hR H2 y0 y1 z0 z1 z2 z3 z4 z5 z6 z7 z8 z9 z10 z11 z12 z13 z14 z15 hW hSP e1 e2 HM HWL W2 og2 ox2 k2 HK1
  by_cases hc : c = 0
  · subst hc
    obtain ⟨d0, d1, d2, d3⟩ := HW2.out.1.cells
    have hz := info_parts' info9'
    obtain ⟨i0, hi, hz0, hz1, hz2⟩ := hz
    have hB2 : B ≤ w2.heap.size := Nat.le_trans HTB.out.2.2.2 y2
    have hl1 := HLN0.out.1
    go_wp2_with (refine wpList_append_lies _ rfl _ _ 46 rfl B 9 i0 _ 1 16 Tryz.underlying46 hi hz0 hz1 hz2 rfl (by decide) sg gi.length (gi.map .string) rfl (World.ownsRow.alloc HW2.out.2.1 _) ⟨w2.heap.size, 0, none⟩ 1 1 [.string s] rfl rfl (World.news_of_block (heap_of_new _ _ _ rfl)) (by simp [Value.oneCell']) (by omega) (by unfold maxLen; omega) (by omega) (by simp; omega) (w2.heap.size + 1) (by simp) ?_; intro gn capn wn hown hgrow hat hltn; have HG : Hid _ := And.intro hown (And.intro hgrow (And.intro hat hltn)); clear hown hgrow hat hltn; have F8 : Fr sg.ownBlock.toList w2 wn := ((Fr.refl _ w2).alloc _).trans (Fr.of_grown HG.out.2.1 (by simp)); have W3 := Wld.fr HW2.out.1 F8 (by simp; intro e; exact HAP0.out.a _ e rfl); have f2 := W3.frozen 2; obtain ⟨x0, x1, x2, x3⟩ := W3.cells)
    have hGA := GvA.of (n0 := w.heap.size) (o := { o with kind := 22 }) _ HAP0.out HW2.out.1 HW2.out.2.2.1 HW2.out.2.2.2 (fun b hb => by have := HLS.out.1 b hb; omega) (by omega) HG.out
    have HGA : Hid _ := hGA
    clear hGA HG F8 W3 f2 x0 x1 x2 x3 d0 d1 d2 d3
    suffices H11 : ∀ W sg', GvA w2 W B gw w.heap.size sv sr sg sg' sw { o with kind := 22 } gi wi s → Code.wp Tryz.prog _ _ _ W from H11 _ _ HGA.out
    clear HGA
    intro W sg' hGA
    have y3 := hGA.fr.size
    have X0 : W.drew.heap[w.heap.size + 1]? = some (.cells (opC { o with kind := 22 }) 54 (0, 0)) := hGA.op
    have XA : ((W.alloc (.cells #[.string o.s] 9)).drew).heap[w.heap.size + 1]? = some (.cells (opC { o with kind := 22 }) 54 (0, 0)) := keep_alloc _ hGA.op
    have A3 : Hid (W.drew.cell? ⟨gw, 3, none⟩ = some sw) := hGA.wl.cells.2.2.2
    have A3A : Hid ((W.alloc (.cells #[.string o.s] 9)).drew.cell? ⟨gw, 3, none⟩ = some sw) := (Wld.cells (keep_alloc (.cells #[.string o.s] 9) hGA.wl)).2.2.2
    have HOW : Hid ((W.alloc (.cells #[.string o.s] 9)).drew.ownsRow B 9 1 sw wi.length (wi.map .string)) := World.ownsRow.alloc hGA.ox _
    have HNB : Hid ((W.alloc (.cells #[.string o.s] 9)).drew.heap[W.heap.size]? = some (.cells #[.string o.s] 9 (0, 0))) := heap_of_new W _ _ rfl
    have HLN : Hid (wi.length ≤ 1000000000000) := HLN0.out.2
    have HBB : Hid (B ≤ (W.alloc (.cells #[.string o.s] 9)).drew.heap.size) := by
      have e3 : (W.alloc (.cells #[.string o.s] 9)).drew.heap.size = W.heap.size + 1 := size_alloc W _
      show B ≤ _
      rw [e3]
      omega
    have HSZ : Hid ((W.alloc (.cells #[.string o.s] 9)).drew.heap.size = W.heap.size + 1) := size_alloc W _
    have HGB : Hid (w.heap.size + 1 ≠ gw) := by show w.heap.size + 1 ≠ gw; omega
    have HGR : Hid (∀ gm capm wn, (wn.ownsRow B 9 1 (.slice (some ⟨gm, 0, none⟩) (wi.length + 1) capm) (wi.length + 1) (wi.map .string ++ [.string o.s]) ∧ (W.alloc (.cells #[.string o.s] 9)).drew.grownBy wn sw.ownBlock ∧ (sw.ownBlock = some gm ∨ gm = W.heap.size + 1) ∧ gm < wn.heap.size) → wn.heap[w.heap.size + 1]? = some (.cells (opC { o with kind := 22 }) 54 (0, 0)) ∧ wn.heap[gw]? = some (.cells #[sv, sr, sg', sw] 48 (0, 0))) := by
      rintro gm capm wn ⟨_, hgr, _⟩
      have F9 : Fr sw.ownBlock.toList _ wn := Fr.of_grown hgr (by simp)
      refine ⟨keepRow F9 XA ?_, keepRow F9 (show ((W.alloc (.cells #[.string o.s] 9)).drew).heap[gw]? = _ from keep_alloc _ hGA.wl) ?_⟩
      · intro hm
        have := HLS.out.2 _ (by simpa using hm)
        omega
      · intro hm
        exact HAP0.out.b gw (by simpa using hm) rfl
    have HAP : Hid (∀ gm capm wn, (wn.ownsRow B 9 1 (.slice (some ⟨gm, 0, none⟩) (wi.length + 1) capm) (wi.length + 1) (wi.map .string ++ [.string o.s]) ∧ (W.alloc (.cells #[.string o.s] 9)).drew.grownBy wn sw.ownBlock ∧ (sw.ownBlock = some gm ∨ gm = W.heap.size + 1) ∧ gm < wn.heap.size) → GvB w2 (wn.setCell ⟨gw, 3, none⟩ (.slice (some ⟨gm, 0, none⟩) (wi.length + 1) capm)) B gw sv sr sg sg' sw (.slice (some ⟨gm, 0, none⟩) (wi.length + 1) capm) gi wi s o.s) := by
      rintro gm capm wn hG
      exact GvB.of _ HAP0.out hGA hG
    clear hGA y3
    refine wp_region_held_drew (S := fun W' => W'.heap[w.heap.size + 1]? = some (.cells (opC { o with kind := 22 }) 54 (0, 0))) (by kernel_rfl) X0 (fun hHeld => ?_)
    refine tp 0 _ ?r1
    refine nz ?_
    refine tp 1 _ ?r2
    refine nz ?_
    refine tp 2 _ ?r3
    refine nz ?_
    refine tp 3 _ ?r4
    refine nz ?_
    refine tp 5 _ ?r5
    refine nz ?_
    refine tk 6 ?v6 ?y6 ?r6
    case y6 => (intro W' hW; obtain ⟨z0, z1, z2, z3, z4, z5, z6, z7, z8, z9, z10, z11, z12, z13, z14, z15⟩ := cellsF hW; dsimp only at z4; go_simp; try with_reducible rfl)
    refine nz ?_
    refine wpAnyH_ready (rs := [4, 7]) (by kernel_rfl) (by simp) ?_
    refine AllReadyH.cons rfl (fun K hK => ?_) (AllReadyH.cons rfl (fun K hK => ?_) AllReadyH.nil)
    · have a3 := A3.out
      go_simp
      refine hK.out _ _ X0 (fun hHeld => ?_)
      clear hK K
      refine wpAnyH_ready (rs := [7]) (by kernel_rfl) (by simp) ?_
      refine AllReadyH.cons rfl (fun K hK => ?_) AllReadyH.nil
      go_simp
      refine hK.out _ _ XA (fun hHeld => ?_)
      clear hK K
      refine wpAnyH_ready (rs := [8]) (by kernel_rfl) (by simp) ?_
      refine AllReadyH.cons rfl (fun K hK => ?_) AllReadyH.nil
      refine step_append_lies _ rfl _ _ 46 rfl B 9 i0 _ 1 16 Tryz.underlying46 hi hz0 hz1 hz2 rfl (by decide) _ wi.length (wi.map .string) rfl HOW.out ⟨W.heap.size, 0, none⟩ 1 1 [.string o.s] rfl rfl (World.news_of_block HNB.out) (by simp [Value.oneCell']) (by omega) (by have := HLN.out; unfold maxLen; omega) (by have := HLN.out; omega) HBB.out (W.heap.size + 1) HSZ.out ?_
      intro gm capm wn hown hgrow hat hltn
      have HG : Hid _ := And.intro hown (And.intro hgrow (And.intro hat hltn))
      clear hown hgrow hat hltn
      have xn := (HGR.out _ _ _ HG.out).1
      have tn := (HGR.out _ _ _ HG.out).2
      have fz := frozen_of_row _ _ 3 _ _ tn
      have n3 := (cells4' tn).2.2.2
      refine hK.out _ _ xn (fun hHeld => ?_)
      clear hK K
      refine tp 9 _ ?r7
      refine nz ?_
      refine tp 10 _ ?r8
      refine nz ?_
      refine wpAnyH_ready (rs := [11]) (by kernel_rfl) (by simp) ?_
      refine AllReadyH.cons rfl (fun K hK => ?_) AllReadyH.nil
      go_simp
      refine hK.out _ _ (by rw [heap_skip _ _ _ _ _ HGB.out]; exact xn) (fun hHeld => ?_)
      clear hK K
      refine wpAnyH_done (by kernel_rfl) ?_ _
      have HFin : Hid _ := HAP.out _ _ _ HG.out
      clear HG xn tn fz n3
      go_wp2_with fail
      refine (lnum_any 0 _).mono ?_
      rintro e w3 ⟨rfl, hw3⟩
      rw [hw3]
      go_wp2
      go_ret
      exact ⟨rfl, r', v', s, 0, w2, HR.out.1, HR.out.2, .inr ⟨rfl, _, _, HFin.out⟩⟩
    · go_simp
      refine hK.out _ _ XA (fun hHeld => ?_)
      clear hK K
      refine wpAnyH_ready (rs := [4]) (by kernel_rfl) (by simp) ?_
      refine AllReadyH.cons rfl (fun K hK => ?_) AllReadyH.nil
      have a3 := A3A.out
      go_simp
      refine hK.out _ _ XA (fun hHeld => ?_)
      clear hK K
      refine wpAnyH_ready (rs := [8]) (by kernel_rfl) (by simp) ?_
      refine AllReadyH.cons rfl (fun K hK => ?_) AllReadyH.nil
      refine step_append_lies _ rfl _ _ 46 rfl B 9 i0 _ 1 16 Tryz.underlying46 hi hz0 hz1 hz2 rfl (by decide) _ wi.length (wi.map .string) rfl HOW.out ⟨W.heap.size, 0, none⟩ 1 1 [.string o.s] rfl rfl (World.news_of_block HNB.out) (by simp [Value.oneCell']) (by omega) (by have := HLN.out; unfold maxLen; omega) (by have := HLN.out; omega) HBB.out (W.heap.size + 1) HSZ.out ?_
      intro gm capm wn hown hgrow hat hltn
      have HG : Hid _ := And.intro hown (And.intro hgrow (And.intro hat hltn))
      clear hown hgrow hat hltn
      have xn := (HGR.out _ _ _ HG.out).1
      have tn := (HGR.out _ _ _ HG.out).2
      have fz := frozen_of_row _ _ 3 _ _ tn
      have n3 := (cells4' tn).2.2.2
      refine hK.out _ _ xn (fun hHeld => ?_)
      clear hK K
      refine tp 9 _ ?r9
      refine nz ?_
      refine tp 10 _ ?r10
      refine nz ?_
      refine wpAnyH_ready (rs := [11]) (by kernel_rfl) (by simp) ?_
      refine AllReadyH.cons rfl (fun K hK => ?_) AllReadyH.nil
      go_simp
      refine hK.out _ _ (by rw [heap_skip _ _ _ _ _ HGB.out]; exact xn) (fun hHeld => ?_)
      clear hK K
      refine wpAnyH_done (by kernel_rfl) ?_ _
      have HFin : Hid _ := HAP.out _ _ _ HG.out
      clear HG xn tn fz n3
      go_wp2_with fail
      refine (lnum_any 0 _).mono ?_
      rintro e w3 ⟨rfl, hw3⟩
      rw [hw3]
      go_wp2
      go_ret
      exact ⟨rfl, r', v', s, 0, w2, HR.out.1, HR.out.2, .inr ⟨rfl, _, _, HFin.out⟩⟩
  · have ec : (c == 0) = false := by rw [beq_eq_false_iff_ne]; exact hc
    have HC : Hid _ := hc
    clear hc
    go_wp2_with fail
    refine (lnum_any c _).mono ?_
    rintro e w3 ⟨rfl, hw3⟩
    rw [hw3]
    go_wp2
    go_ret
    exact ⟨rfl, r', v', s, c, w2, HR.out.1, HR.out.2, .inl ⟨HC.out, rfl⟩⟩
end Go.Proofs.YtgalgjmhdbncbaaGreat
