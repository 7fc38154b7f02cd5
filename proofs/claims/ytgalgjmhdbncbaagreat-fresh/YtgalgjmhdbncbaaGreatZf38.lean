import Derived.Test.YtgalgjmhdbncbaaGreatZf37
namespace Go.Proofs.YtgalgjmhdbncbaaGreat
open Go.RowKit
attribute [local go_sem ↓] Go.wp_at_zero Go.wp_at_succ

theorem heap_ltS {w : World} {g : Nat} {cs : Array Value} {t : TypeId} (h : w.heap[g]? = some (.cells cs t (0, 0))) : g < w.heap.size := by
  rcases Nat.lt_or_ge g w.heap.size with hlt | hge
  · exact hlt
  · rw [Array.getElem?_eq_none hge] at h; cases h
structure StA where
  kind : Int
  a : Int
  b : Int
  c : Int
  s : ByteArray
  yes : Bool
def stC (o : StA) : Array Value := #[.int .i64 o.kind, .int .i64 o.a, .int .i64 o.b, .int .i64 o.c, .string o.s, .bool o.yes]
def SealQ (S : Sto) (H : Nat → Hd) (K : Nat → Ky) (G : List Gv) (id : Nat) (S' : Sto) (H' : Nat → Hd) (K' : Nat → Ky) (G' : List Gv) (ov' : Bool) : Prop :=
  (K' = K ∧ G' = G ∧ ((K id).there = 0 ∨ (K id).ret = 1 ∨ S.left = 1 ∨ ∃ i, i < 8 ∧ hit H id i ∧ (H i).ctr = (K id).seals)) ∨
  (ov' = false ∧ S'.left ≤ S.left ∧ (∃ x, G' = G ++ [x]) ∧ K' = setK K id { K id with given := (K id).given + 1 } ∧ ∀ i, i < 8 → hit H id i → hit H' id i ∧ (H' i).ctr = (H i).ctr + 1)
theorem info72 : (Tryz.prog.info? 72).map (fun i => (i.zero, i.size, i.bytes)) = some (some (.agg #[.int .i64 0, .string ⟨#[]⟩, .string ⟨#[]⟩]), 3, 40) := by kernel_rfl
theorem cells6S {w : World} {g : Nat} {v0 v1 v2 v3 v4 v5 : Value} {t : TypeId} (h : w.heap[g]? = some (.cells #[v0, v1, v2, v3, v4, v5] t (0, 0))) : w.cell? ⟨g, 0, none⟩ = some v0 ∧ w.cell? ⟨g, 1, none⟩ = some v1 ∧ w.cell? ⟨g, 2, none⟩ = some v2 ∧ w.cell? ⟨g, 3, none⟩ = some v3 ∧ w.cell? ⟨g, 4, none⟩ = some v4 ∧ w.cell? ⟨g, 5, none⟩ = some v5 := by
  refine ⟨?_, ?_, ?_, ?_, ?_, ?_⟩
  · rw [cell_of_row _ _ 0 _ _ _ h]; rfl
  · rw [cell_of_row _ _ 1 _ _ _ h]; rfl
  · rw [cell_of_row _ _ 2 _ _ _ h]; rfl
  · rw [cell_of_row _ _ 3 _ _ _ h]; rfl
  · rw [cell_of_row _ _ 4 _ _ _ h]; rfl
  · rw [cell_of_row _ _ 5 _ _ _ h]; rfl
structure SlR (w W : World) (B g sx t kb0 m0 : Nat) (S : Sto) (H : Nat → Hd) (K : Nat → Ky) (G : List Gv) (sg : Value) (k : Ky) (v0 v1 v2 v3 v4 : Value) : Prop where
  kb : W.heap[kb0]? = some (.cells #[.int .i64 k.there, .int .i64 k.ret, .int .i64 k.seals, .int .i64 k.given] 35 (0, 0))
  rb : W.heap[m0]? = some (.cells #[v0, v1, v2, v3, v4] 52 (0, 0))
  r : RgR W g sx t K sg false
  p : StoP W sx S
  tp : TabP W t sx H
  o : W.ownsRow B 72 3 sg G.length (gvL G)
  bel : Below B w W
  bb : B ≤ W.heap.size
  nk : kb0 ≠ g
  nm : m0 ≠ g
  n : RgN g sx t sg
theorem SlR.set {w W : World} {B g sx t kb m0 : Nat} {S : Sto} {H : Nat → Hd} {K : Nat → Ky} {G : List Gv} {sg : Value} {k : Ky} {v0 v1 v2 v3 v4 : Value} (h : SlR w W B g sx t kb m0 S H K G sg k v0 v1 v2 v3 v4) (hg : B ≤ g) (j : Nat) (v : Value) {K' : Nat → Ky} (hr : RgR (W.setCell ⟨g, j, none⟩ v) g sx t K' sg false) : SlR w (W.setCell ⟨g, j, none⟩ v).drew B g sx t kb m0 S H K' G sg k v0 v1 v2 v3 v4 := by
  have F : Fr [g] W (W.setCell ⟨g, j, none⟩ v).drew := (Fr.setCell (Fr.refl _ _) (.inr (by simp)) _).drew
  have n1 := h.n.gs
  have n2 := h.n.gt
  have nk := h.nk
  have nm := h.nm
  exact ⟨keepRow F h.kb (by simp; omega), keepRow F h.rb (by simp; omega), hr, Row.fr h.p F (by simp; omega), Row.fr h.tp F (by simp; omega), ownsFr h.o F (fun b hb => by simpa using (h.n.og b hb).1), h.bel.trans (F.low h.bb (by simp; exact hg)), Nat.le_trans h.bb F.size, h.nk, h.nm, h.n⟩
theorem cells5S {w : World} {g : Nat} {v0 v1 v2 v3 v4 : Value} {t : TypeId} (h : w.heap[g]? = some (.cells #[v0, v1, v2, v3, v4] t (0, 0))) : w.cell? ⟨g, 0, none⟩ = some v0 ∧ w.cell? ⟨g, 1, none⟩ = some v1 ∧ w.cell? ⟨g, 2, none⟩ = some v2 ∧ w.cell? ⟨g, 3, none⟩ = some v3 ∧ w.cell? ⟨g, 4, none⟩ = some v4 := by
  refine ⟨?_, ?_, ?_, ?_, ?_⟩
  · rw [cell_of_row _ _ 0 _ _ _ h]; rfl
  · rw [cell_of_row _ _ 1 _ _ _ h]; rfl
  · rw [cell_of_row _ _ 2 _ _ _ h]; rfl
  · rw [cell_of_row _ _ 3 _ _ _ h]; rfl
  · rw [cell_of_row _ _ 4 _ _ _ h]; rfl
set_option maxRecDepth 100000 in
set_option maxHeartbeats 8000000 in
theorem seals_any (w : World) (B g sx t : Nat) (S : Sto) (H : Nat → Hd) (K : Nat → Ky) (G : List Gv) (sg : Value) (top : Nat → Nat) (id : Nat) (o : StA) (hid : id < 4) (hB : B ≤ w.heap.size) (hln : G.length ≤ 3000000000000) (h : Rng w B g sx t S H K G false sg top) :
    Calls Tryz.prog 22 #[ptr g, .int .i64 id, .agg (stC o)] w fun e w' => e = .returned (.bool true) ∧ (∃ S' H' K' G' ov' sg' top', Rng w' B g sx t S' H' K' G' ov' sg' top' ∧ G'.length ≤ G.length + 1 ∧ SealQ S H K G id S' H' K' G' ov') ∧ Below B w w' := by
  have F0 : Fr [] w ((w.alloc (.cells #[.int .i64 o.kind, .int .i64 o.a, .int .i64 o.b, .int .i64 o.c, .string o.s, .bool o.yes] 31)).alloc (.cells #[.int .i64 (K id).there, .int .i64 (K id).ret, .int .i64 (K id).seals, .int .i64 (K id).given] 35)) := ((Fr.refl _ _).alloc _).alloc _
  have q0 : ((w.alloc (.cells #[.int .i64 o.kind, .int .i64 o.a, .int .i64 o.b, .int .i64 o.c, .string o.s, .bool o.yes] 31)).alloc (.cells #[.int .i64 (K id).there, .int .i64 (K id).ret, .int .i64 (K id).seals, .int .i64 (K id).given] 35)).heap[w.heap.size + 1]? = some (.cells #[.int .i64 (K id).there, .int .i64 (K id).ret, .int .i64 (K id).seals, .int .i64 (K id).given] 35 (0, 0)) := heap_of_new _ _ _ (by simp)
  have h0 := h.fr0 F0
  obtain ⟨s, hsE⟩ : ∃ s, upV o.s 20 = s := ⟨_, rfl⟩
  have hsz : s.size ≤ 20 := by rw [← hsE]; exact upV_le _ _
  have hup := fun W => upVo_any o.s 20 (by omega) W
  rw [hsE] at hup
  have hse := tseal_any t sx H S id wT s h.i.tk h.i.cr h.i.le _ h0.tp h0.s h0.tabIn
  obtain ⟨k0, k1, k2, k3⟩ := h.r.key id hid
  have c1 := h.r.at1
  obtain ⟨l1, l2, l3⟩ := h.lt
  unfold wT at hse
  unfold ptr at hse ⊢
  rw [show Value.agg (stC o) = .agg #[.int .i64 o.kind, .int .i64 o.a, .int .i64 o.b, .int .i64 o.c, .string o.s, .bool o.yes] from rfl]
  have HUP : Hid _ := hup
  have HSE : Hid _ := hse
  have HX : Hid _ := And.intro h (And.intro h0 (And.intro q0 F0))
  have HSZ : Hid _ := hsz
  clear hup hse h h0 q0 F0 hsE hsz
  go_enter Tryz.func22, Tryz.ntmps22
  go_wp2_with fail
  refine (HUP.out _).mono ?_
  rintro e wu ⟨rfl, hwu⟩
  rw [hwu]
  clear hwu wu
  go_wp2_with fail
  refine Calls.mono HSE.out ?_
  rintro e w1 ⟨T, r, S', H', rfl, hP, p1, tp1, f1⟩
  obtain ⟨h, h0, q0, F0⟩ := HX.out
  have n := h.apart
  have n1 := n.gs
  have n2 := n.gt
  obtain ⟨r1, o1⟩ := h0.called f1
  have k1b := keepRow (g := w.heap.size + 1) f1 q0 (by simp; omega)
  obtain ⟨y0, y1, y2, y3⟩ := cells4K k1b
  have hP' : sealP t S H id wT s T r S' H' := hP
  have hcase := h.i.seal hid HSZ.out hP'
  have F1 : Fr [t, sx] w w1 := (F0.sub (by simp)).trans f1
  have bel : Below B w w1 := F1.low hB (by simp; exact ⟨h.bt, h.bs⟩)
  have hB1 : B ≤ w1.heap.size := Nat.le_trans hB F1.size
  have HM : Hid _ := And.intro n (And.intro p1 (And.intro tp1 (And.intro r1 (And.intro o1 (And.intro bel (And.intro h (And.intro hB1 k1b)))))))
  have k19 := r1.at19
  have c1' := r1.at1
  have z19 := Row.frozen r1 19
  have y9 := F1.size
  clear h h0 q0 F0 hP hP' p1 tp1 f1 r1 o1 k1b F1 bel n HX HSE k0 k1 k2 k3 c1
  rcases hcase with ⟨e1, e2, e3, e4⟩ | ⟨e1, e5, e2, e3, e4⟩ | ⟨e1, e5, e2, e6, e7, hRI⟩ | ⟨e1, e5, e2, e6, e3, e4, hx⟩ | ⟨e1, e5, e2, hlt, hle, c, m, hT, hc, hci, hfresh, hRI, hnext⟩
  · subst e3 e4
    have HE : Hid _ := e1
    rw [e1] at y0
    rw [e2]
    clear e1 e2
    go_wp2
    go_ret
    obtain ⟨n, p1, tp1, r1, o1, bel, h, hB1, _⟩ := HM.out
    exact ⟨rfl, ⟨_, _, _, _, _, _, _, ⟨r1, p1, tp1, o1, h.i, h.bg, h.bs, h.bt⟩, by omega, .inl ⟨rfl, rfl, .inl HE.out⟩⟩, bel⟩
  · subst e3 e4
    have HE : Hid _ := e5
    rw [e1] at y0
    rw [e5] at y1
    rw [e2]
    clear e1 e2 e5
    go_wp2
    go_ret
    obtain ⟨n, p1, tp1, r1, o1, bel, h, hB1, _⟩ := HM.out
    exact ⟨rfl, ⟨_, _, _, _, _, _, _, ⟨r1, p1, tp1, o1, h.i, h.bg, h.bs, h.bt⟩, by omega, .inl ⟨rfl, rfl, .inr (.inl HE.out)⟩⟩, bel⟩
  · have HRI : Hid _ := And.intro hRI e7
    rw [e1] at y0
    rw [e5] at y1
    rw [e2, e6]
    clear e1 e2 e5 e6 e7 hRI
    go_wp2
    go_ret
    obtain ⟨n, p1, tp1, r1, o1, bel, h, hB1, _⟩ := HM.out
    have FF : Fr [g] w1 (w1.setCell ⟨g, 19, none⟩ (.bool true)) := Fr.setCell (Fr.refl _ _) (.inr (by simp)) _
    exact ⟨rfl, ⟨_, _, _, _, _, _, _, Rng.of n p1 tp1 o1 FF (r1.set19 true) HRI.out.1 h.bg h.bs h.bt, by omega, .inl ⟨rfl, rfl, .inr (.inr (.inl HRI.out.2))⟩⟩, bel.trans (FF.low hB1 (by simp; exact h.bg))⟩
  · subst e3 e4
    have hst := status_any t sx H' id _ HM.out.2.2.1
    have hst2 : Calls Tryz.prog 25 #[.pointer (some ⟨t, 0, none⟩), .int .i64 id] w1 fun e w' => (∃ (al rs : Nat) (rb : Bool), e = .returned (.tuple #[.agg #[.int .i64 al, .int .i64 (K id).seals, .int .i64 rs, .bool rb], .int .i64 0])) ∧ Below w1.heap.size w1 w' := by
      refine Calls.mono hst ?_
      rintro e w' ⟨⟨i, hi, hh, _, rfl⟩ | ⟨hn, rfl⟩, hb⟩
      · obtain ⟨j, hj, hh2, e9⟩ := hx
        have hij : i = j := by
          have L := HM.out.2.2.2.2.2.2.1.i.lv rfl
          have a1 := hh.1
          have a2 := hit_nat hh
          have b1 := hh2.1
          have b2 := hit_nat hh2
          rw [L.eq i hi] at a1 a2
          rw [L.eq j hj] at b1 b2
          exact HM.out.2.2.2.2.2.2.1.i.dk.uq i j hi hj a1 b1 (by show (ofC _).id = (ofC _).id; rw [a2, b2])
        subst hij
        exact ⟨⟨(H' i).c.alg, (H' i).c.res, decide ((H' i).c.st = 2), by unfold stA; rw [e9]⟩, hb⟩
      · obtain ⟨j, hj, hh2, _⟩ := hx
        exact absurd hh2 (hn j hj)
    have HST : Hid _ := hst2
    have HHX : Hid _ := hx
    rw [e1] at y0
    rw [e5] at y1
    rw [e2, e6]
    clear e1 e2 e5 e6 hst hst2 hx
    go_wp2_with fail
    refine Calls.mono HST.out ?_
    rintro e w2 ⟨⟨al, rs, rb, rfl⟩, b2⟩
    have F2 : Fr [] w1 (w2.alloc (.cells #[.int .i64 al, .int .i64 (K id).seals, .int .i64 rs, .bool rb] 68)) := (Fr.of_below [] b2 (Nat.le_refl _)).alloc _
    have k2 := keepRow F2 HM.out.2.2.2.2.2.2.2.2 (by simp)
    obtain ⟨u0, u1, u2, u3⟩ := cells4K k2
    have HF2 : Hid _ := F2
    clear F2 k2 b2 y0 y1 y2 y3
    go_wp2
    go_ret
    obtain ⟨n, p1, tp1, r1, o1, bel, h, hB1, _⟩ := HM.out
    exact ⟨rfl, ⟨_, _, _, _, _, _, _, (Rng.mk r1 p1 tp1 o1 h.i h.bg h.bs h.bt).fr0 HF2.out, by omega, .inl ⟨rfl, rfl, .inr (.inr (.inr HHX.out))⟩⟩, bel.trans (HF2.out.low hB1 (by simp))⟩
  · have hrec := seal_isrec c m wT s hc (by have := HSZ.out; omega)
    have hsg : ∀ x ∈ G, ∃ n, IsSealed x n ∧ (x.id = id → n ≠ hnonT ⟨c, m⟩) := by
      intro x hx
      by_cases hxi : x.id = id
      · obtain ⟨c', m', a1, a2, a3, a4⟩ := hfresh x hx hxi
        exact ⟨_, sealed_of a1 a3 a2, fun _ => a4⟩
      · obtain ⟨c', m', a⟩ := HM.out.2.2.2.2.2.2.1.i.dk.gv x hx
        exact ⟨_, sealed_of a.ok a.z a.tx, fun e => absurd e hxi⟩
    obtain ⟨bd, hbd⟩ : ∃ bd, maskT c.key (firstF c.key (hnonT ⟨c, m⟩)) s = bd := ⟨_, rfl⟩
    obtain ⟨tg, htg⟩ : ∃ tg, str 16 (tagF c.key (firstF c.key (hnonT ⟨c, m⟩)) (headT c.alg c.id (hnonT ⟨c, m⟩) s ++ wT) (maskT c.key (firstF c.key (hnonT ⟨c, m⟩)) s)) = tg := ⟨_, rfl⟩
    rw [htg, hbd] at hrec
    have hbz : bd.size = s.size := by rw [← hbd, maskT_size]
    have hTe : T = encT c.alg c.id (hnonT ⟨c, m⟩) bd tg := by rw [hT, ← htg, ← hbd]; rfl
    have hpa := fun W => parse_enc c.alg c.id (hnonT ⟨c, m⟩) bd tg hrec W
    rw [← hTe, hci] at hpa
    unfold recV at hpa
    obtain ⟨nn, hnn⟩ : ∃ nn, hnonT ⟨c, m⟩ = nn := ⟨_, rfl⟩
    rw [hnn] at hpa hsg
    have his := fun W hr ho => issued_any W B g sx t id K G false sg nn hr ho (by omega) hsg
    unfold ptr at his
    have HPA : Hid _ := hpa
    have HIS : Hid _ := his
    have HRI : Hid _ := And.intro hRI (And.intro hle hnext)
    have elt : ((K id).given : Int) < ((K id).seals : Int) := by omega
    have ebz : ((bd.size : Int) == (s.size : Int)) = true := by rw [beq_iff_eq, hbz]
    have hk3 : (K id).given ≤ 65535 := by
      have hst := HM.out.2.2.2.2.2.2.1.i
      obtain ⟨j, hj, a, b⟩ := hst.dk.th id hid e1
      have ck := hst.dk.ok j hj a
      rw [b] at ck
      obtain ⟨⟨_, q⟩, _⟩ := ck.ok.cfg
      have := ck.seals
      omega
    rw [e1] at y0
    rw [e5] at y1
    rw [e2]
    have HL : Hid _ := hln
    clear e1 e2 e5 hpa his hRI hle hnext hrec hsg hfresh hT hc hci hnn hTe hbd htg hbz hlt hln
    go_wp2_with fail
    refine (HPA.out _).mono ?_
    rintro e w2 ⟨rfl, b2⟩
    have F2 : Fr [] w1 (w2.alloc (.cells #[.int .i64 c.alg, .int .i64 id, .string nn, .string bd, .string tg] 52)) := (Fr.of_below [] b2 (Nat.le_refl _)).alloc _
    have q2 : (w2.alloc (.cells #[.int .i64 c.alg, .int .i64 id, .string nn, .string bd, .string tg] 52)).heap[w2.heap.size]? = some (.cells #[.int .i64 c.alg, .int .i64 id, .string nn, .string bd, .string tg] 52 (0, 0)) := heap_of_new _ _ _ rfl
    have hi2 := HIS.out _ (HM.out.2.2.2.1.fr F2 (by simp)) (ownsFr HM.out.2.2.2.2.1 F2 (by simp))
    have HI2 : Hid _ := hi2
    have HF2 : Hid _ := And.intro F2 q2
    have y2s : w1.heap.size ≤ w2.heap.size := b2.size
    clear F2 q2 hi2 b2
    go_wp2_with fail
    refine Calls.mono HI2.out ?_
    rintro e w3 ⟨rfl, f3⟩
    obtain ⟨n, p1, tp1, r1, o1, bel, h, hB1, kb⟩ := HM.out
    have F3 : Fr [] w1 w3 := HF2.out.1.trans f3
    have r3 := r1.fr F3 (by simp)
    have o3 := ownsFr o1 F3 (by simp)
    have d18 := r3.at18
    have HM3 : Hid _ := And.intro F3 (And.intro r3 (And.intro o3 (keepRow f3 HF2.out.2 (by simp))))
    have hz := info_parts' info72
    obtain ⟨i0, hi, hz0, hz1, hz2⟩ := hz
    have hl1 := HL.out
    have hB3 : B ≤ w3.heap.size := Nat.le_trans hB1 F3.size
    have hog := n.og
    have HOG : Hid _ := hog
    clear n p1 tp1 r1 o1 bel h kb F3 r3 o3 f3 hog
    go_wp2_with (refine wpList_append_lies _ rfl _ _ 37 rfl B 72 i0 _ 3 40 Tryz.underlying37 hi hz0 hz1 hz2 rfl (by decide) sg G.length (gvL G) rfl (World.ownsRow.alloc HM3.out.2.2.1 _) ⟨w3.heap.size, 0, none⟩ 1 1 [.int .i64 id, .string T, .string s] rfl rfl (World.news_of_block (heap_of_new _ _ _ rfl)) (by simp [Value.oneCell']) (by omega) (by unfold maxLen; omega) (by omega) (by simp; omega) (w3.heap.size + 1) (by simp) ?_; intro gn capn wn hown hgrow hat hltn; have HG : Hid _ := And.intro hown (And.intro hgrow (And.intro hat hltn)); clear hown hgrow hat hltn; have F8 : Fr sg.ownBlock.toList w3 wn := ((Fr.refl _ w3).alloc _).trans (Fr.of_grown HG.out.2.1 (by simp)); have r8 := RgR.fr HM3.out.2.1 F8 (fun hm => (HOG.out g (by simpa using hm)).1 rfl); have f18 := Row.frozen r8 18; have x18 := r8.at18)
    have lgw1 : g < w1.heap.size := Nat.lt_of_lt_of_le l1 y9
    have hSR : SlR w (wn.setCell ⟨g, 18, none⟩ (.slice (some ⟨gn, 0, none⟩) (G.length + 1) capn)) B g sx t (w.heap.size + 1) w2.heap.size S' H' K (G ++ [⟨id, T, s⟩]) (.slice (some ⟨gn, 0, none⟩) (G.length + 1) capn) (K id) (.int .i64 c.alg) (.int .i64 id) (.string nn) (.string bd) (.string tg) := by
      obtain ⟨n, p1, tp1, r1, o1, bel, h, hB1, kb⟩ := HM.out
      obtain ⟨F3, r3, o3, q3⟩ := HM3.out
      obtain ⟨hown, hgrow, hat, hltn⟩ := HG.out
      have FF : Fr [g] wn (wn.setCell ⟨g, 18, none⟩ (.slice (some ⟨gn, 0, none⟩) (G.length + 1) capn)) := Fr.setCell (Fr.refl _ _) (.inr (by simp)) _
      have lkb := heap_ltS kb
      have lq := heap_ltS q3
      have n1 := n.gs
      have n2 := n.gt
      have nsg : ∀ b, sg.ownBlock = some b → b < w1.heap.size ∧ b ≠ w.heap.size + 1 := fun b hb => by
        have e1 := (World.ownsRow.lt o1 b hb).2
        have e2 := (World.ownsRow.lt h.o b hb).2
        exact ⟨e1, by omega⟩
      have hns : ∀ b, (b = w.heap.size + 1 ∨ w1.heap.size ≤ b) → b ∉ sg.ownBlock.toList := fun b hb hm => by
        have := nsg b (by simpa using hm)
        omega
      have hgn : gn ≠ g ∧ gn ≠ sx ∧ gn ≠ t := by
        rcases hat with h' | h'
        · exact n.og gn h'
        · have := F3.size
          have := Row.lt p1
          have := Row.lt tp1
          omega
      refine ⟨keepRow FF (keepRow F8 (keepRow F3 kb (by simp)) (hns _ (.inl rfl))) (by simp; omega), keepRow FF (keepRow F8 q3 (hns _ (.inr y2s))) (by simp; omega), r8.set18 _, ?_, ?_, ?_, ?_, ?_, by omega, by omega, ⟨n1, n2, n.st, fun b hb => by simp only [Value.ownBlock, Option.some.injEq] at hb; subst hb; exact hgn⟩⟩
      · exact Row.fr (Row.fr (Row.fr p1 F3 (by simp)) F8 (fun hm => (n.og sx (by simpa using hm)).2.1 rfl)) FF (by simp; omega)
      · exact Row.fr (Row.fr (Row.fr tp1 F3 (by simp)) F8 (fun hm => (n.og t (by simpa using hm)).2.2 rfl)) FF (by simp; omega)
      · rw [List.length_append, gvL_snoc]
        exact ownsFr hown FF (fun b hb => by simp only [Value.ownBlock, Option.some.injEq] at hb; subst hb; simp [hgn.1])
      · refine (bel.trans (F3.low hB1 (by simp))).trans ((F8.low hB3 (fun k hk => ?_)).trans (FF.low (Nat.le_trans hB3 F8.size) (by simp; exact h.bg)))
        have hk' : sg.ownBlock = some k := by simpa using hk
        exact (World.ownsRow.lt o3 k hk').1
      · exact Nat.le_trans hB3 (Nat.le_trans F8.size FF.size)
    have HSR : Hid _ := hSR
    have HBG : Hid _ := HM.out.2.2.2.2.2.2.1.bg
    have HBS : Hid _ := And.intro HM.out.2.2.2.2.2.2.1.bs HM.out.2.2.2.2.2.2.1.bt
    clear hSR HG F8 r8 f18 x18 HM3 HM d18 HF2 k19 c1' z19 y0 y1 y2 y3 HIS HI2 HPA HOG
    suffices H17 : ∀ W, SlR w W B g sx t (w.heap.size + 1) w2.heap.size S' H' K (G ++ [⟨id, T, s⟩]) (.slice (some ⟨gn, 0, none⟩) (G.length + 1) capn) (K id) (.int .i64 c.alg) (.int .i64 id) (.string nn) (.string bd) (.string tg) → Code.wp Tryz.prog _ _ _ W from H17 _ HSR.out
    clear HSR
    intro W X
    have hidI : (id : Int) < 4 := by omega
    have X0 : W.drew.heap[w.heap.size + 1]? = some (.cells #[.int .i64 (K id).there, .int .i64 (K id).ret, .int .i64 (K id).seals, .int .i64 (K id).given] 35 (0, 0)) := X.kb
    obtain ⟨a0, a1, a2, a3⟩ := X.r.key id hid
    have fz := Row.frozen X.r (2 + id * 4 + 3)
    have hca : ((K id).given : Int) + 1 = (((K id).given + 1 : Nat) : Int) := by omega
    have hwr : IntKind.i64.wrap (((K id).given : Int) + 1) = ((K id).given : Int) + 1 := by rw [hca]; exact wrap_sm _ (by omega)
    have X2 := X.set HBG.out (2 + id * 4 + 3) (.int .i64 (((K id).given : Int) + 1)) (by
      rw [hca]
      exact RgR.setKy (w := W) X.r id 3 hid (by omega) { K id with given := (K id).given + 1 } (by
        intro i hi hne
        rcases (by omega : i = 0 ∨ i = 1 ∨ i = 2) with rfl | rfl | rfl <;> rfl))
    have HX2 : Hid _ := X2
    have XA : (W.setCell ⟨g, 2 + id * 4 + 3, none⟩ (.int .i64 (IntKind.i64.wrap (((K id).given : Int) + 1)))).drew.heap[w.heap.size + 1]? = some (.cells #[.int .i64 (K id).there, .int .i64 (K id).ret, .int .i64 (K id).seals, .int .i64 (K id).given] 35 (0, 0)) := by rw [hwr]; exact X2.kb
    clear hca
    clear hwr
    clear X X2
    refine wp_region_held_drew (S := fun W' => W'.heap[w.heap.size + 1]? = some (.cells #[.int .i64 (K id).there, .int .i64 (K id).ret, .int .i64 (K id).seals, .int .i64 (K id).given] 35 (0, 0))) (by kernel_rfl) X0 (fun hHeld => ?_)
    refine wpAnyH_take (i := 0) (v := ?v1) rfl (by kernel_rfl) (by kernel_rfl) (by kernel_rfl) (fun _ _ _ h => h) (Or.inl ⟨by rfl, ?y1⟩) (by assumption) ?r1
    case y1 => (intro W' hW; go_simp; try with_reducible rfl)
    try simp only [Act.put, List.getElem_toArray, List.getElem_cons_zero, List.setIfInBounds_toArray, List.set_cons_zero, List.set_cons_succ]
    refine wpAnyH_take (i := 1) (v := ?v2) rfl (by kernel_rfl) (by kernel_rfl) (by kernel_rfl) (fun _ _ _ h => h) (Or.inl ⟨by rfl, ?y2⟩) (by assumption) ?r2
    case y2 => (intro W' hW; go_simp; try with_reducible rfl)
    try simp only [Act.put, List.getElem_toArray, List.getElem_cons_zero, List.getElem_cons_succ, List.setIfInBounds_toArray, List.set_cons_zero, List.set_cons_succ]
    refine wpAnyH_take (i := 2) (v := ?v3) rfl (by kernel_rfl) (by kernel_rfl) (by kernel_rfl) (fun _ _ _ h => h) (Or.inl ⟨by rfl, ?y3⟩) (by assumption) ?r3
    case y3 => (intro W' hW; go_simp; try with_reducible rfl)
    try simp only [Act.put, List.getElem_toArray, List.getElem_cons_zero, List.getElem_cons_succ, List.setIfInBounds_toArray, List.set_cons_zero, List.set_cons_succ]
    refine wpAnyH_take (i := 3) (v := ?v4) rfl (by kernel_rfl) (by kernel_rfl) (by kernel_rfl) (fun _ _ _ h => h) (Or.inl ⟨by rfl, ?y4⟩) (by assumption) ?r4
    case y4 => (intro W' hW; obtain ⟨y0, y1, y2, y3⟩ := cells4K hW; go_simp; try with_reducible rfl)
    try simp only [Act.put, List.getElem_toArray, List.getElem_cons_zero, List.getElem_cons_succ, List.setIfInBounds_toArray, List.set_cons_zero, List.set_cons_succ]
    refine wpAnyH_take (i := 4) (v := ?v5) rfl (by kernel_rfl) (by kernel_rfl) (by kernel_rfl) (fun _ _ _ h => h) (Or.inl ⟨by rfl, ?y5⟩) (by assumption) ?r5
    case y5 => (intro W' hW; go_simp; try with_reducible rfl)
    try simp only [Act.put, List.getElem_toArray, List.getElem_cons_zero, List.getElem_cons_succ, List.setIfInBounds_toArray, List.set_cons_zero, List.set_cons_succ]
    refine wpAnyH_take (i := 5) (v := ?v6) rfl (by kernel_rfl) (by kernel_rfl) (by kernel_rfl) (fun _ _ _ h => h) (Or.inl ⟨by rfl, ?y6⟩) (by assumption) ?r6
    case y6 => (intro W' hW; go_simp; try with_reducible rfl)
    try simp only [Act.put, List.getElem_toArray, List.getElem_cons_zero, List.getElem_cons_succ, List.setIfInBounds_toArray, List.set_cons_zero, List.set_cons_succ]
    refine wpAnyH_take (i := 6) (v := ?v7) rfl (by kernel_rfl) (by kernel_rfl) (by kernel_rfl) (fun _ _ _ h => h) (Or.inl ⟨by rfl, ?y7⟩) (by assumption) ?r7
    case y7 => (intro W' hW; go_simp; try with_reducible rfl)
    try simp only [Act.put, List.getElem_toArray, List.getElem_cons_zero, List.getElem_cons_succ, List.setIfInBounds_toArray, List.set_cons_zero, List.set_cons_succ]
    refine wpAnyH_take (i := 7) (v := ?v8) rfl (by kernel_rfl) (by kernel_rfl) (by kernel_rfl) (fun _ _ _ h => h) (Or.inl ⟨by rfl, ?y8⟩) (by assumption) ?r8
    case y8 => (intro W' hW; go_simp; try with_reducible rfl)
    try simp only [Act.put, List.getElem_toArray, List.getElem_cons_zero, List.getElem_cons_succ, List.setIfInBounds_toArray, List.set_cons_zero, List.set_cons_succ]
    refine wpAnyH_take (i := 8) (v := ?v9) rfl (by kernel_rfl) (by kernel_rfl) (by kernel_rfl) (fun _ _ _ h => h) (Or.inl ⟨by rfl, ?y9⟩) (by assumption) ?r9
    case y9 => (intro W' hW; go_simp; try with_reducible rfl)
    try simp only [Act.put, List.getElem_toArray, List.getElem_cons_zero, List.getElem_cons_succ, List.setIfInBounds_toArray, List.set_cons_zero, List.set_cons_succ]
    refine wpAnyH_ready (rs := [9]) (by kernel_rfl) (by simp) ?_
    refine AllReadyH.cons rfl (fun K hK => ?_) ?nil9
    case nil9 => exact AllReadyH.nil
    go_simp
    refine hK.out _ _ XA (fun hHeld => ?_)
    clear hK K
    refine wpAnyH_done (by kernel_rfl) ?_ _
    obtain ⟨y0, y1, y2, y3⟩ := cells4K HX2.out.kb
    obtain ⟨j0, j1, j2, j3, j4⟩ := cells5S HX2.out.rb
    go_wp2
    go_ret
    have X := HX2.out
    exact ⟨rfl, ⟨_, _, _, _, .inl ⟨⟨_, _, ⟨X.r, X.p, X.tp, X.o, HRI.out.1, HBG.out, HBS.out.1, HBS.out.2⟩⟩, by rw [List.length_append]; simp, .inr ⟨rfl, HRI.out.2.1, ⟨_, rfl⟩, rfl, fun i hi hh => ⟨(HRI.out.2.2 i hi hh).2.1, by rw [(HRI.out.2.2 i hi hh).2.2, (HRI.out.2.2 i hi hh).1]⟩⟩⟩⟩, X.bel⟩
end Go.Proofs.YtgalgjmhdbncbaaGreat
