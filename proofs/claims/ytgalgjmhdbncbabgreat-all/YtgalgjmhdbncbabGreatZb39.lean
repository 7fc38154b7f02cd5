import Derived.Test.YtgalgjmhdbncbabGreatZb38
import Derived.Test.YtgalgjmhdbncbabGreatZb37
namespace Go.Proofs.YtgalgjmhdbncbabGreat
open Go.RowKit
attribute [local go_sem ↓] Go.wp_at_zero Go.wp_at_succ

def nilS : Value := .slice none 0 0
def IVs (B gw k : Nat) (L : List Vt → Prop) (W : World) : Prop := B ≤ W.heap.size ∧ ∃ own sv vs, Wld W gw sv nilS nilS nilS ∧ own gw = (0, 0) ∧ InvV W B own sv vs k ∧ vs.length ≤ k ∧ L vs
def OpOk (o : OpA) : Prop := (-9223372036854775808 ≤ o.on ∧ o.on ≤ 9223372036854775807) ∧ o.a ≤ 9223372036854775807
theorem IVs.of {B gw k : Nat} {W w' : World} {own : Nat → Nat × Nat} {vs : List Vt} {D : List Vt → Prop} (hB : B ≤ W.heap.size) (hg : own gw = (0, 0)) (hgl : gw < W.heap.size) (hlo : ∀ b, b < B → own b = (99, 0)) (hk : vs.length ≤ k) (h : VStep W w' B gw own nilS nilS nilS vs k D) : IVs B gw (k + 1) D w' ∧ Below B W w' := by
  obtain ⟨own', sv', vs', hD, hW, hI, hl, _, ho, hF⟩ := h
  refine ⟨⟨Nat.le_trans hB hF.size, own', sv', vs', hW, ?_, hI, by omega, hD⟩, hF.below hB (fun b hb => by rw [hlo b hb]; simp)⟩
  rw [ho gw hgl]; exact hg
theorem IVs.mono {B gw k : Nat} {W : World} {L L' : List Vt → Prop} (h : IVs B gw k L W) (hL : ∀ vs, L vs → L' vs) : IVs B gw k L' W := by
  obtain ⟨hB, own, sv, vs, hW, hg, hI, hl, hL2⟩ := h
  exact ⟨hB, own, sv, vs, hW, hg, hI, hl, hL _ hL2⟩
theorem IVs.fr {B gw k : Nat} {W W' : World} {L : List Vt → Prop} (h : IVs B gw k L W) (hf : Fr [] W W') : IVs B gw k L W' := by
  obtain ⟨hB, own, sv, vs, hW, hg, hI, hl, hL2⟩ := h
  exact ⟨Nat.le_trans hB hf.size, own, sv, vs, hW.fr hf (by simp), hg, hI.frT (FrT.of (T := []) hf (by simp)) (by simp) (by simp) (by simp) (by simp), hl, hL2⟩
theorem step_s_new (B gw k : Nat) (L : List Vt → Prop) (o : OpA) (hk : o.kind = 10) (hkk : k ≤ 1000000000000) (W : World) (h : IVs B gw k L W) :
    Calls Tryz.prog 6 #[ptr gw, .agg (opC o)] W fun e w' => e = .returned (.bool true) ∧ IVs B gw (k + 1) (fun vs' => ∃ vs gx gr gc, L vs ∧ vs' = vs ++ [⟨gx, gr, gc, newSto, newR⟩]) w' ∧ Below B W w' := by
  obtain ⟨hB, own, sv, vs, hW, hg, hI, hl, hL⟩ := h
  refine Calls.mono (step_new W B gw own sv nilS nilS nilS vs k o hW hg hI hB hk (by omega)) ?_
  rintro e w' ⟨rfl, hV⟩
  obtain ⟨h1, h2⟩ := IVs.of hB hg hW.lt hI.lo hl hV
  exact ⟨rfl, h1.mono (fun vs' ⟨gx, gr, gc, e⟩ => ⟨vs, gx, gr, gc, hL, e⟩), h2⟩
theorem step_s_call (B gw k : Nat) (L : List Vt → Prop) (o : OpA) (hk : 10 < o.kind ∧ o.kind < 20) (hO : OpOk o) (hkk : k ≤ 1000000000000) (W : World) (h : IVs B gw k L W) :
    Calls Tryz.prog 6 #[ptr gw, .agg (opC o)] W fun e w' => e = .returned (.bool true) ∧ IVs B gw (k + 1) (fun vs' => ∃ vs, L vs ∧ (vs' = vs ∨ Called o vs vs')) w' ∧ Below B W w' := by
  obtain ⟨hB, own, sv, vs, hW, hg, hI, hl, hL⟩ := h
  by_cases h0 : vs.length = 0
  · refine Calls.mono (step_idle W B gw own sv nilS nilS nilS vs k o hW hI hk h0) ?_
    rintro e w' ⟨rfl, hV⟩
    obtain ⟨h1, h2⟩ := IVs.of hB hg hW.lt hI.lo hl hV
    exact ⟨rfl, h1.mono (fun vs' e => ⟨vs, hL, .inl e⟩), h2⟩
  · refine Calls.mono (step_call W B gw own sv nilS nilS nilS vs k o hW hg hI hk hO.1 hO.2 (by omega) (by omega) (by omega)) ?_
    rintro e w' ⟨rfl, hV⟩
    obtain ⟨h1, h2⟩ := IVs.of hB hg hW.lt hI.lo hl hV
    exact ⟨rfl, h1.mono (fun vs' e => ⟨vs, hL, .inr e⟩), h2⟩
theorem Called.len {o : OpA} {vs vs' : List Vt} (h : Called o vs vs') : vs'.length = vs.length := by
  obtain ⟨r, v, R, _, e⟩ := h
  rw [e, List.length_set]
theorem IVs.new (W : World) (B : Nat) (hB : B ≤ W.heap.size) : IVs B W.heap.size 0 (fun vs => vs = []) (W.alloc (.cells #[nilS, nilS, nilS, nilS] 31)) := by
  refine ⟨by simp; omega, fun b => if b < B then (99, 0) else (0, 0), nilS, [], heap_of_new _ _ _ rfl, by simp; omega, ⟨World.ownsRow_nil _ _ _ _, ?_, ?_, ?_⟩, by simp, rfl⟩
  · intro b hb; simp [nilS, Value.ownBlock] at hb
  · intro i v hi; simp at hi
  · intro b hb; simp [hb]
theorem IVs.one {B gw k : Nat} {W : World} (h : IVs B gw k (fun vs => vs.length = 1) W) : ∃ g cap, W.cell? ⟨gw, 0, none⟩ = some (.slice (some ⟨g, 0, none⟩) 1 cap) := by
  obtain ⟨hB, own, sv, vs, hW, hg, hI, hl, hL⟩ := h
  have := hI.ow
  rw [hL] at this
  obtain ⟨g, cap, e, _, _⟩ := World.ownsRow.form this (by omega)
  exact ⟨g, cap, by rw [hW.cells.1, e]⟩
end Go.Proofs.YtgalgjmhdbncbabGreat
namespace Go.Proofs.YtgalgjmhdbncbabGreat
open Go.RowKit
attribute [local go_sem ↓] Go.wp_at_zero Go.wp_at_succ

structure Rg where
  gx : Nat
  gr : Nat
  v : Nat
  num : Nat
  fl : Bool
  sh : Value
  hs : List Rh
  H : Nat → Hd
def rgL (rs : List Rg) : List Value := rs.flatMap fun r => [ptr r.gx, ptr r.gr]
theorem rgL_even (rs : List Rg) : ∀ q, (rgL rs)[q * 2]? = (rs[q]?).map fun r => ptr r.gx := by
  induction rs with
  | nil => intro r; simp [rgL]
  | cons a l ih =>
    intro r
    cases r with
    | zero => simp [rgL]
    | succ r => rw [show (r + 1) * 2 = r * 2 + 1 + 1 by omega]; simpa [rgL] using ih r
theorem rgL_odd (rs : List Rg) : ∀ q, (rgL rs)[q * 2 + 1]? = (rs[q]?).map fun r => ptr r.gr := by
  induction rs with
  | nil => intro r; simp [rgL]
  | cons a l ih =>
    intro r
    cases r with
    | zero => simp [rgL]
    | succ r => rw [show (r + 1) * 2 + 1 = r * 2 + 1 + 1 + 1 by omega]; simpa [rgL] using ih r
theorem rgL_snoc (rs : List Rg) (r : Rg) : rgL (rs ++ [r]) = rgL rs ++ [ptr r.gx, ptr r.gr] := by simp [rgL]
theorem rgL_set (rs : List Rg) (i : Nat) (r r' : Rg) (h : rs[i]? = some r) (h1 : r'.gx = r.gx) (h2 : r'.gr = r.gr) : rgL (rs.set i r') = rgL rs := by
  induction rs generalizing i with
  | nil => simp at h
  | cons a l ih =>
    cases i with
    | zero => simp at h; subst h; simp [rgL, h1, h2]
    | succ i => simp at h; have := ih i h; simp [rgL] at this ⊢; exact this
structure TabB (w : World) (B gx gr num : Nat) (fl : Bool) (sh : Value) (hs : List Rh) (H : Nat → Hd) (sx gs : Nat) (S : Sto) (R : RSt) : Prop where
  p : TabP w gx sx H
  r : TabR w B gr gs num fl sh hs
  rel : RelH hs H
  ov : overB fl R.user num = true ↔ S.tab ≠ some gx
  nm : num ≤ R.tables
theorem TabB.frT {own : Nat → Nat × Nat} {T : List Nat} {w w' : World} {B gx gr num sx gs : Nat} {fl : Bool} {sh : Value} {hs : List Rh} {H : Nat → Hd} {S : Sto} {R : RSt} (h : TabB w B gx gr num fl sh hs H sx gs S R) (hf : FrT own T w w') (h1 : (own gx).1 ∉ T) (h2 : (own gr).1 ∉ T) (h3 : ∀ b, sh.ownBlock = some b → (own b).1 ∉ T) : TabB w' B gx gr num fl sh hs H sx gs S R :=
  ⟨hf.row h.p h1, ⟨hf.row h.r.r h2, hf.owns h.r.o h3⟩, h.rel, h.ov, h.nm⟩
theorem TabB.fr {L : List Nat} {w w' : World} {B gx gr num sx gs : Nat} {fl : Bool} {sh : Value} {hs : List Rh} {H : Nat → Hd} {S : Sto} {R : RSt} (h : TabB w B gx gr num fl sh hs H sx gs S R) (hf : Fr L w w') (h1 : gx ∉ L) (h2 : gr ∉ L) (h3 : ∀ b, sh.ownBlock = some b → b ∉ L) : TabB w' B gx gr num fl sh hs H sx gs S R :=
  ⟨Row.fr h.p hf h1, h.r.fr hf h2 h3, h.rel, h.ov, h.nm⟩
theorem TabB.lt {w : World} {B gx gr num sx gs : Nat} {fl : Bool} {sh : Value} {hs : List Rh} {H : Nat → Hd} {S : Sto} {R : RSt} (h : TabB w B gx gr num fl sh hs H sx gs S R) : gx < w.heap.size ∧ gr < w.heap.size ∧ ∀ b, sh.ownBlock = some b → b < w.heap.size := ⟨Row.lt h.p, heap_lt h.r.r, fun b hb => (World.ownsRow.lt h.r.o b hb).2⟩
structure InvT (w : World) (B : Nat) (own : Nat → Nat × Nat) (sv sr sg sw : Value) (vs : List Vt) (rs : List Rg) (gi wi : List ByteArray) (k : Nat) : Prop where
  V : InvV w B own sv vs k
  cz : ∀ (i : Nat) v, vs[i]? = some v → (∀ j, j < 8 → (v.S.cell j).size ≤ 64) ∧ v.R.tables ≤ k ∧ ∀ t, v.S.tab = some t → ∃ (q : Nat) (r : Rg), rs[q]? = some r ∧ r.gx = t
  ow : w.ownsRow B 50 2 sr rs.length (rgL rs)
  sl : ∀ b, sr.ownBlock = some b → own b = (2, 0)
  rg : ∀ (i : Nat) r, rs[i]? = some r → own r.gx = (8, i) ∧ own r.gr = (9, i) ∧ (∀ b, r.sh.ownBlock = some b → own b = (10, i)) ∧ ∃ v, vs[r.v]? = some v ∧ TabB w B r.gx r.gr r.num r.fl r.sh r.hs r.H v.gx v.gr v.S v.R
  og : w.ownsRow B 9 1 sg gi.length (gi.map .string)
  gl : ∀ b, sg.ownBlock = some b → own b = (3, 0)
  ox : w.ownsRow B 9 1 sw wi.length (wi.map .string)
  xl : ∀ b, sw.ownBlock = some b → own b = (4, 0)
  le : gi.length = wi.length
  gz : ∀ (i : Nat) s, gi[i]? = some s → s.size ≤ 1000
  wz : ∀ (i : Nat) s, wi[i]? = some s → s.size ≤ 1000
theorem InvT.tabIn {w : World} {B k : Nat} {own : Nat → Nat × Nat} {sv sr sg sw : Value} {vs : List Vt} {rs : List Rg} {gi wi : List ByteArray} (h : InvT w B own sv sr sg sw vs rs gi wi k) {i : Nat} {v : Vt} (hi : vs[i]? = some v) : TabIn w v.S := by
  intro t ht
  obtain ⟨q, r, hq, e⟩ := (h.cz i v hi).2.2 t ht
  obtain ⟨_, _, _, v', _, hT⟩ := h.rg q r hq
  rw [← e]
  exact ⟨_, hT.p⟩
theorem InvT.frT {w w' : World} {B k : Nat} {own : Nat → Nat × Nat} {sv sr sg sw : Value} {vs : List Vt} {rs : List Rg} {gi wi : List ByteArray} (h : InvT w B own sv sr sg sw vs rs gi wi k) (hf : FrT own [] w w') : InvT w' B own sv sr sg sw vs rs gi wi k :=
  ⟨h.V.frT hf (by simp) (by simp) (by simp) (by simp), h.cz, hf.owns h.ow (by simp), h.sl, fun i r hi => by
    obtain ⟨a, b, c, v, d, e⟩ := h.rg i r hi
    exact ⟨a, b, c, v, d, e.frT hf (by simp) (by simp) (by simp)⟩, hf.owns h.og (by simp), h.gl, hf.owns h.ox (by simp), h.xl, h.le, h.gz, h.wz⟩
theorem InvT.mono {w : World} {B k k' : Nat} {own : Nat → Nat × Nat} {sv sr sg sw : Value} {vs : List Vt} {rs : List Rg} {gi wi : List ByteArray} (h : InvT w B own sv sr sg sw vs rs gi wi k) (hk : k ≤ k') : InvT w B own sv sr sg sw vs rs gi wi k' :=
  ⟨⟨h.V.ow, h.V.sl, fun i v hi => by
    obtain ⟨a, b, c, d, e⟩ := h.V.st i v hi
    exact ⟨a, b, c, d, by omega⟩, h.V.lo⟩, fun i v hi => by
    obtain ⟨a, b, c⟩ := h.cz i v hi
    exact ⟨a, by omega, c⟩, h.ow, h.sl, h.rg, h.og, h.gl, h.ox, h.xl, h.le, h.gz, h.wz⟩
structure Wrk (w w' : World) (B : Nat) (r : Rg) (v : Vt) (r' : Rg) (v' : Vt) : Prop where
  e1 : r'.gx = r.gx
  e2 : r'.gr = r.gr
  e3 : r'.v = r.v
  f1 : v'.gx = v.gx
  f2 : v'.gr = v.gr
  f3 : v'.gc = v.gc
  S : StoB w' v.gx v.gr v.gc v'.S v'.R
  T : TabB w' B r.gx r.gr r'.num r'.fl r'.sh r'.hs r'.H v.gx v.gr v'.S v'.R
  us : v'.R.user = v.R.user
  tn : v'.R.tables = v.R.tables
  wr : v'.R.writes ≤ v.R.writes + 1
  tb : v'.S.tab = v.S.tab ∨ (v'.S.tab = none ∧ v.S.tab = some r.gx)
  cz : ∀ j, j < 8 → (v'.S.cell j).size ≤ 64
  hb : ∀ b, r'.sh.ownBlock = some b → r.sh.ownBlock = some b ∨ (w.heap.size ≤ b ∧ b < w'.heap.size)
  fr : Fr (r.gx :: v.gx :: r.gr :: v.gr :: v.gc :: r.sh.ownBlock.toList) w w'
theorem set_at {α : Type} {l : List α} {i : Nat} {x y : α} (h : l[i]? = some x) {j : Nat} {z : α} (hj : (l.set i y)[j]? = some z) : (j = i ∧ z = y) ∨ (j ≠ i ∧ l[j]? = some z) := by
  rw [List.getElem?_set] at hj
  by_cases e : i = j
  · rw [if_pos e, if_pos (getE_lt h)] at hj
    simp only [Option.some.injEq] at hj
    exact .inl ⟨e.symm, hj.symm⟩
  · rw [if_neg e] at hj
    exact .inr ⟨fun e2 => e e2.symm, hj⟩
theorem set_same {α : Type} {l : List α} {i : Nat} {x : α} (y : α) (h : l[i]? = some x) : (l.set i y)[i]? = some y := by
  rw [List.getElem?_set, if_pos rfl, if_pos (getE_lt h)]
theorem set_other {α : Type} {l : List α} {i j : Nat} {x : α} (y : α) (h : l[j]? = some x) (hn : j ≠ i) : (l.set i y)[j]? = some x := by
  rw [List.getElem?_set, if_neg (fun e => hn e.symm)]; exact h
def ownS (own : Nat → Nat × Nat) (n q b : Nat) : Nat × Nat := if b < n then own b else (10, q)
theorem InvT.work {w w' : World} {B k : Nat} {own : Nat → Nat × Nat} {sv sr sg sw : Value} {vs : List Vt} {rs : List Rg} {gi wi : List ByteArray} (h : InvT w B own sv sr sg sw vs rs gi wi k) (hB : B ≤ w.heap.size) {q : Nat} {r r' : Rg} {v v' : Vt} (hq : rs[q]? = some r) (hv : vs[r.v]? = some v) (hW : Wrk w w' B r v r' v') :
    InvT w' B (ownS own w.heap.size q) sv sr sg sw (vs.set r.v v') (rs.set q r') gi wi (k + 1) ∧ FrT own [5, 6, 7, 8, 9, 10] w w' := by
  obtain ⟨o1, o2, o3, v0, hv0, hT0⟩ := h.rg q r hq
  rw [hv] at hv0
  simp only [Option.some.injEq] at hv0
  subst hv0
  obtain ⟨hB0, p1, p2, p3, hwr⟩ := h.V.st r.v v hv
  have hin : ∀ b, b ∈ (r.gx :: v.gx :: r.gr :: v.gr :: v.gc :: r.sh.ownBlock.toList) → own b = (8, q) ∨ own b = (5, r.v) ∨ own b = (9, q) ∨ own b = (6, r.v) ∨ own b = (7, r.v) ∨ own b = (10, q) := by
    intro b hb
    simp only [List.mem_cons, Option.mem_toList] at hb
    rcases hb with rfl | rfl | rfl | rfl | rfl | hb
    · exact .inl o1
    · exact .inr (.inl p1)
    · exact .inr (.inr (.inl o2))
    · exact .inr (.inr (.inr (.inl p2)))
    · exact .inr (.inr (.inr (.inr (.inl p3))))
    · exact .inr (.inr (.inr (.inr (.inr (o3 b (by simpa using hb))))))
  have hnot : ∀ b t i, own b = (t, i) → (t = 8 ∨ t = 9 ∨ t = 10 → i ≠ q) → (t = 5 ∨ t = 6 ∨ t = 7 → i ≠ r.v) → b ∉ (r.gx :: v.gx :: r.gr :: v.gr :: v.gc :: r.sh.ownBlock.toList) := by
    intro b t i hb h1 h2 hm
    rcases hin b hm with e | e | e | e | e | e <;> rw [hb] at e <;> simp only [Prod.mk.injEq] at e <;> omega
  have hT : FrT own [5, 6, 7, 8, 9, 10] w w' := FrT.of hW.fr (by
    intro b hb
    rcases hin b hb with e | e | e | e | e | e <;> rw [e] <;> simp)
  have lo : ∀ b, b < w.heap.size → ownS own w.heap.size q b = own b := fun b hb => by unfold ownS; rw [if_pos hb]
  have sz := hW.fr.size
  refine ⟨⟨⟨?_, ?_, ?_, ?_⟩, ?_, ?_, ?_, ?_, ?_, ?_, ?_, ?_, h.le, h.gz, h.wz⟩, hT⟩
  · rw [List.length_set, vtL_set vs r.v v v' hv hW.f1 hW.f2]
    exact hT.owns h.V.ow (fun b hb => by rw [h.V.sl b hb]; simp)
  · intro b hb
    rw [lo b (h.V.lt b hb)]; exact h.V.sl b hb
  · intro j u hj
    rcases set_at hv hj with ⟨rfl, rfl⟩ | ⟨hn, hj⟩
    · obtain ⟨x1, x2, x3⟩ := hB0.lt
      rw [hW.f1, hW.f2, hW.f3, lo _ x1, lo _ x2, lo _ x3]
      refine ⟨hW.S, p1, p2, p3, ?_⟩
      have := hW.wr
      omega
    · obtain ⟨a2, b2, c2, d2, e5⟩ := h.V.st j u hj
      obtain ⟨x1, x2, x3⟩ := a2.lt
      rw [lo _ x1, lo _ x2, lo _ x3]
      exact ⟨StoB.fr a2 hW.fr (hnot _ _ _ b2 (by omega) (fun _ => hn)) (hnot _ _ _ c2 (by omega) (fun _ => hn)) (hnot _ _ _ d2 (by omega) (fun _ => hn)), b2, c2, d2, by omega⟩
  · intro b hb
    rw [lo b (by omega)]; exact h.V.lo b hb
  · intro j u hj
    have tr : ∀ t, (∃ (q' : Nat) (r2 : Rg), rs[q']? = some r2 ∧ r2.gx = t) → ∃ (q' : Nat) (r2 : Rg), (rs.set q r')[q']? = some r2 ∧ r2.gx = t := by
      rintro t ⟨q', r2, h1, h2⟩
      by_cases e : q' = q
      · subst e
        rw [hq] at h1
        simp only [Option.some.injEq] at h1
        subst h1
        exact ⟨q', r', set_same r' hq, by rw [hW.e1]; exact h2⟩
      · exact ⟨q', r2, set_other r' h1 e, h2⟩
    rcases set_at hv hj with ⟨rfl, rfl⟩ | ⟨hn, hj⟩
    · obtain ⟨_, c2, c3⟩ := h.cz r.v v hv
      refine ⟨hW.cz, by rw [hW.tn]; omega, fun t ht => ?_⟩
      rcases hW.tb with e | ⟨e, _⟩
      · exact tr t (c3 t (by rw [← e]; exact ht))
      · rw [e] at ht; cases ht
    · obtain ⟨c1, c2, c3⟩ := h.cz j u hj
      exact ⟨c1, by omega, fun t ht => tr t (c3 t ht)⟩
  · rw [List.length_set, rgL_set rs q r r' hq hW.e1 hW.e2]
    exact hT.owns h.ow (fun b hb => by rw [h.sl b hb]; simp)
  · intro b hb
    rw [lo b (World.ownsRow.lt h.ow b hb).2]; exact h.sl b hb
  · intro j r2 hj
    rcases set_at hq hj with ⟨rfl, rfl⟩ | ⟨hn, hj⟩
    · obtain ⟨y1, y2, y3⟩ := hT0.lt
      rw [hW.e1, hW.e2, hW.e3, lo _ y1, lo _ y2]
      refine ⟨o1, o2, fun b hb => ?_, v', set_same v' hv, ?_⟩
      · rcases hW.hb b hb with e | ⟨e, _⟩
        · rw [lo b (y3 b e)]; exact o3 b e
        · unfold ownS
          rw [if_neg (by omega)]
      · rw [hW.f1, hW.f2]; exact hW.T
    · obtain ⟨a1, a2, a3, u, hu, hTu⟩ := h.rg j r2 hj
      obtain ⟨y1, y2, y3⟩ := hTu.lt
      have hne : r.gx ≠ r2.gx := fun e => by
        rw [e, a1] at o1
        simp only [Prod.mk.injEq] at o1
        omega
      have hF := hTu.fr hW.fr (hnot _ _ _ a1 (fun _ => hn) (by omega)) (hnot _ _ _ a2 (fun _ => hn) (by omega)) (fun b hb => hnot _ _ _ (a3 b hb) (fun _ => hn) (by omega))
      rw [lo _ y1, lo _ y2]
      refine ⟨a1, a2, fun b hb => by rw [lo b (y3 b hb)]; exact a3 b hb, ?_⟩
      by_cases e : r2.v = r.v
      · rw [e, hv] at hu
        simp only [Option.some.injEq] at hu
        subst hu
        refine ⟨v', by rw [e]; exact set_same v' hv, ?_⟩
        rw [hW.f1, hW.f2]
        refine ⟨hF.p, hF.r, hF.rel, ?_, by rw [hW.tn]; exact hF.nm⟩
        rw [hW.us]
        rcases hW.tb with e2 | ⟨e2, e3⟩
        · rw [e2]; exact hF.ov
        · rw [e2]
          refine ⟨fun _ => by simp, fun _ => hF.ov.2 ?_⟩
          rw [e3]
          simpa using hne
      · exact ⟨u, set_other v' hu e, hF⟩
  · exact hT.owns h.og (fun b hb => by rw [h.gl b hb]; simp)
  · intro b hb
    rw [lo b (World.ownsRow.lt h.og b hb).2]; exact h.gl b hb
  · exact hT.owns h.ox (fun b hb => by rw [h.xl b hb]; simp)
  · intro b hb
    rw [lo b (World.ownsRow.lt h.ox b hb).2]; exact h.xl b hb
theorem InvT.stored {w w' : World} {B k : Nat} {own own' : Nat → Nat × Nat} {sv sv' sr sg sw : Value} {vs vs' : List Vt} {rs : List Rg} {gi wi : List ByteArray} (h : InvT w B own sv sr sg sw vs rs gi wi k) (hV : InvV w' B own' sv' vs' (k + 1)) (hE : VExt vs vs') (ho : ∀ b, b < w.heap.size → own' b = own b) (hf : FrT own [0, 1, 5, 6, 7] w w')
    (hc : ∀ (i : Nat) v, vs'[i]? = some v → (∀ j, j < 8 → (v.S.cell j).size ≤ 64) ∧ v.R.tables ≤ k + 1 ∧ ∀ t, v.S.tab = some t → ∃ (q : Nat) (r : Rg), rs[q]? = some r ∧ r.gx = t) : InvT w' B own' sv' sr sg sw vs' rs gi wi (k + 1) := by
  refine ⟨hV, hc, hf.owns h.ow (fun b hb => by rw [h.sl b hb]; simp), ?_, ?_, hf.owns h.og (fun b hb => by rw [h.gl b hb]; simp), ?_, hf.owns h.ox (fun b hb => by rw [h.xl b hb]; simp), ?_, h.le, h.gz, h.wz⟩
  · intro b hb
    rw [ho b (World.ownsRow.lt h.ow b hb).2]; exact h.sl b hb
  · intro i r hi
    obtain ⟨a1, a2, a3, u, hu, hT⟩ := h.rg i r hi
    obtain ⟨y1, y2, y3⟩ := hT.lt
    obtain ⟨u', hu', g1, g2, g3, g4, g5, g6⟩ := hE r.v u hu
    have hF := hT.frT hf (by rw [a1]; simp) (by rw [a2]; simp) (fun b hb => by rw [a3 b hb]; simp)
    rw [ho _ y1, ho _ y2]
    refine ⟨a1, a2, fun b hb => by rw [ho b (y3 b hb)]; exact a3 b hb, u', hu', ?_⟩
    rw [g1, g2]
    exact ⟨hF.p, hF.r, hF.rel, by rw [g4, g5]; exact hF.ov, by rw [g6]; exact hF.nm⟩
  · intro b hb
    rw [ho b (World.ownsRow.lt h.og b hb).2]; exact h.gl b hb
  · intro b hb
    rw [ho b (World.ownsRow.lt h.ox b hb).2]; exact h.xl b hb
end Go.Proofs.YtgalgjmhdbncbabGreat
