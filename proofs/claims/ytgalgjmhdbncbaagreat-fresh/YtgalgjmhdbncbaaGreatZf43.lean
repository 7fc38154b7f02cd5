import Derived.Test.YtgalgjmhdbncbaaGreatZf42
import Derived.ProofKit
import Derived.OpenShut
import Derived.ShutString
import Derived.SizedLaws
import Derived.Deep.Slices
import Derived.Carry
namespace Go.Proofs.YtgalgjmhdbncbaaGreat
open Go.RowKit
attribute [local go_sem ↓] Go.wp_at_zero Go.wp_at_succ

structure FsI (S : Sto) (H : Nat → Hd) (K : Nat → Ky) (n : Nat) : Prop where
  l : S.left = 0
  k1 : (K 0).there = 1
  k2 : (K 0).ret = 0
  k3 : (K 0).seals = 5
  h : ∃ i, i < 8 ∧ hit H (0 : Nat) i ∧ (H i).ctr = n
theorem first_make {t : Nat} {H H' : Nat → Hd} {S' : Sto} {K' : Nat → Ky} {G' : List Gv} {ov' : Bool} (q : StepQ 0 0 5 { newSto with tab := some t } H (fun _ => zKy) [] false S' H' K' G' ov') : ov' = false ∧ G' = [] ∧ FsI S' H' K' 0 := by
  obtain ⟨m, hG⟩ := q.1 rfl rfl
  rcases m with h1 | h1 | ⟨h1, h2, h3, i, hi, hh, hc⟩
  · simp [zKy] at h1
  · simp [newSto] at h1
  · subst h3
    refine ⟨h1, hG, h2, ?_, ?_, ?_, i, hi, hh, hc⟩
    · rw [setK_at]
    · rw [setK_at]
    · rw [setK_at]
theorem RI.hit_uq {S : Sto} {t : Nat} {H : Nat → Hd} {K : Nat → Ky} {G : List Gv} {top : Nat → Nat} (h : RI S t H K G false top) {id i j : Nat} (hi : i < 8) (hj : j < 8) (a : hit H id i) (b : hit H id j) : i = j := by
  have L := h.lv rfl
  have a1 := a.1
  have b1 := b.1
  have a2 := hit_nat a
  have b2 := hit_nat b
  rw [L.eq i hi] at a1 a2
  rw [L.eq j hj] at b1 b2
  exact h.dk.uq i j hi hj a1 b1 (by show (ofC _).id = (ofC _).id; rw [a2, b2])
theorem first_seal {S S' : Sto} {t s n : Nat} {H H' : Nat → Hd} {K K' : Nat → Ky} {G G' : List Gv} {ov' : Bool} {top : Nat → Nat} (h : RI S t H K G false top) (hf : FsI S H K n) (hn : n < 5) (q : StepQ 1 0 s S H K G false S' H' K' G' ov') : ov' = false ∧ G'.length = G.length + 1 ∧ FsI S' H' K' (n + 1) := by
  obtain ⟨i, hi, hh, hc⟩ := hf.h
  have k1 := hf.k1
  have k2 := hf.k2
  have k3 := hf.k3
  have hl := hf.l
  rcases q.2.1 rfl rfl with ⟨_, _, e | e | e | ⟨j, hj, hh2, e⟩⟩ | ⟨e1, e2, ⟨x, e3⟩, e4, e5⟩
  · omega
  · omega
  · omega
  · have := h.hit_uq hi hj hh hh2
    subst this
    omega
  · subst e4
    obtain ⟨a, b⟩ := e5 i hi hh
    refine ⟨e1, by rw [e3]; simp, by omega, ?_, ?_, ?_, i, hi, a, by omega⟩
    · rw [setK_at]; exact k1
    · rw [setK_at]; exact k2
    · rw [setK_at]; exact k3
theorem stOk_lit (k b : Int) (s : ByteArray) (hk : 0 ≤ k ∧ k ≤ 9) (hb : 0 ≤ b ∧ b ≤ 9) (hs : s.size ≤ 9) : StOk ⟨k, 0, b, 0, s, false⟩ := ⟨by show _ ≤ k; omega, by show k ≤ _; omega, by show _ ≤ (0 : Int); omega, by show (0 : Int) ≤ _; omega, by show _ ≤ b; omega, by show b ≤ _; omega, by show _ ≤ (0 : Int); omega, by show (0 : Int) ≤ _; omega, by show s.size ≤ maxLen; unfold maxLen; omega⟩
set_option maxRecDepth 100000 in
set_option maxHeartbeats 8000000 in
theorem ffirst_any (w : World) : Calls Tryz.prog 7 #[] w fun e w' => e = .returned (.bool true) ∧ Below w.heap.size w w' := by
  have hop := opened_any w w.heap.size (Nat.le_refl _)
  have hst := fun W g sx t S H K G sg top k b s hk hb hs hB hl h => step_any W w.heap.size g sx t S H K G false sg top ⟨k, 0, b, 0, s, false⟩ (stOk_lit k b s hk hb hs) hB hl h
  unfold ptr stC at hst
  have HOP : Hid _ := hop
  have HST : Hid _ := hst
  clear hop hst
  go_enter Tryz.func7, Tryz.ntmps7
  go_wp2_with fail
  refine Calls.mono HOP.out ?_
  rintro e w1 ⟨g, sx, t, rfl, r1, b1⟩
  have H1 : Hid _ := And.intro r1 b1
  clear r1 b1
  go_wp2_with fail
  refine Calls.mono (HST.out _ g sx t _ _ _ _ _ _ 0 4 ⟨#[107, 101, 121]⟩ (by omega) (by omega) (by decide) H1.out.2.size (by decide) H1.out.1) ?_
  rintro e w2 ⟨rfl, ⟨sx2, t2, S2, HH2, K2, G2, ov2, sg2, top2, r2, l2, q2⟩, b2⟩
  obtain ⟨rfl, rfl, f2⟩ := first_make q2
  have H2 : Hid _ := And.intro r2 (And.intro (H1.out.2.trans b2) f2)
  clear r2 l2 q2 b2 f2 H1
  go_wp2_with fail
  refine Calls.mono (HST.out _ g sx2 t2 _ _ _ _ _ _ 1 0 ⟨#[111, 110, 101]⟩ (by omega) (by omega) (by decide) H2.out.2.1.size (by decide) H2.out.1) ?_
  rintro e w3 ⟨rfl, ⟨sx3, t3, S3, HH3, K3, G3, ov3, sg3, top3, r3, l3, q3⟩, b3⟩
  obtain ⟨rfl, g3, f3⟩ := first_seal H2.out.1.i H2.out.2.2 (by omega) q3
  have H3 : Hid _ := And.intro r3 (And.intro (H2.out.2.1.trans b3) (And.intro f3 g3))
  clear r3 l3 q3 b3 f3 H2 g3
  go_wp2_with fail
  refine Calls.mono (HST.out _ g sx3 t3 _ _ _ _ _ _ 1 0 ⟨#[116, 119, 111]⟩ (by omega) (by omega) (by decide) H3.out.2.1.size (by have := H3.out.2.2.2; simp at this; omega) H3.out.1) ?_
  rintro e w4 ⟨rfl, ⟨sx4, t4, S4, HH4, K4, G4, ov4, sg4, top4, r4, l4, q4⟩, b4⟩
  obtain ⟨rfl, g4, f4⟩ := first_seal H3.out.1.i H3.out.2.2.1 (by omega) q4
  have hg4 : G4.length = 2 := by have := H3.out.2.2.2; simp at this; omega
  have H4 : Hid _ := And.intro r4 (And.intro (H3.out.2.1.trans b4) hg4)
  clear r4 l4 q4 b4 f4 H3 g4 hg4
  go_wp2_with fail
  refine Calls.mono (HST.out _ g sx4 t4 _ _ _ _ _ _ 7 0 ⟨#[]⟩ (by omega) (by omega) (by decide) H4.out.2.1.size (by have := H4.out.2.2; omega) H4.out.1) ?_
  rintro e w5 ⟨rfl, ⟨sx5, t5, S5, HH5, K5, G5, ov5, sg5, top5, r5, l5, q5⟩, b5⟩
  obtain ⟨rfl, g5⟩ := q5.2.2.1 rfl
  have H5 : Hid _ := And.intro r5 (And.intro (H4.out.2.1.trans b5) (by rw [g5]; exact H4.out.2.2 : G5.length = 2))
  clear r5 l5 q5 b5 H4 g5
  go_wp2_with fail
  refine Calls.mono (HST.out _ g sx5 t5 _ _ _ _ _ _ 4 1 ⟨#[]⟩ (by omega) (by omega) (by decide) H5.out.2.1.size (by have := H5.out.2.2; omega) H5.out.1) ?_
  rintro e w6 ⟨rfl, ⟨sx6, t6, S6, HH6, K6, G6, ov6, sg6, top6, r6, l6, q6⟩, b6⟩
  obtain ⟨rfl, g6⟩ := q6.2.2.2 rfl rfl
  have hg6 : G6.length = 2 := by rw [g6]; exact H5.out.2.2
  obtain ⟨p, cap, hsg⟩ : ∃ p cap, sg6 = .slice p G6.length cap := by
    rcases r6.o.2 with ⟨h, h0⟩ | ⟨q, cap, cur, h, _⟩
    · exact ⟨none, 0, by rw [h, h0]⟩
    · exact ⟨_, cap, h⟩
  rw [hg6] at hsg
  have c18 := r6.r.at18
  rw [hsg] at c18
  have c19 := r6.r.at19
  have H6 : Hid _ := H5.out.2.1.trans b6
  clear r6 l6 q6 b6 H5 g6 hg6 hsg HST HOP
  go_wp2
  go_ret
  exact ⟨rfl, H6.out⟩
end Go.Proofs.YtgalgjmhdbncbaaGreat
namespace Go.Proofs.YtgalgjmhdbncbaaGreat
open Go.ChangeShapes Go.WideShapes Go.ChangeAt Go.RowKit

def StAt (w : World) (a : Addr) (o : StA) : Prop := ∀ j v, (stC o).toList[j]? = some v → w.cell? (a.add j) = some v
def stD (H : Type) (o : StA) : DataW H := .agg [.lit (.int .i64 o.kind), .lit (.int .i64 o.a), .lit (.int .i64 o.b), .lit (.int .i64 o.c), .lit (.string o.s.data.toList), .lit (.bool o.yes)]
theorem add_blockS (a : Addr) (j : Nat) : (a.add j).block = a.block := by unfold Addr.add; split <;> rfl
theorem cells31 : Tryz.prog.cellsOf 31 = 6 := by kernel_rfl
theorem bytes31 : Tryz.prog.bytesOf 31 = 56 := by kernel_rfl
theorem sixS {cs : List Value} (h : cs.length = 6) : ∃ c0 c1 c2 c3 c4 c5, cs = [c0, c1, c2, c3, c4, c5] := by
  match cs, h with
  | [c0, c1, c2, c3, c4, c5], _ => exact ⟨c0, c1, c2, c3, c4, c5, rfl⟩
set_option maxRecDepth 100000 in
set_option maxHeartbeats 1000000 in
theorem open_st {H : Type} {enc : TypeId × Value → H} {W : World} {base : Nat} {sp : Nat → Bool} {held : Bool} {fuel : Nat} {cs : List Value} {x : DataW H × List MemPlace} (hc : cs.length = 6)
    (h : DataW.trod enc Tryz.prog W base sp held fuel 31 cs = some x) :
    ∃ o : StA, cs = (stC o).toList ∧ x.1 = stD H o ∧ (Lit.int .i64 o.kind).wf = true ∧ (Lit.int .i64 o.a).wf = true ∧ (Lit.int .i64 o.b).wf = true ∧ (Lit.int .i64 o.c).wf = true := by
  obtain ⟨c0, c1, c2, c3, c4, c5, rfl⟩ := sixS hc
  obtain ⟨xs, m, rfl, hx, _, hl, hall⟩ := DataW.trod_struct Tryz.underlying31 h
  have h0 := hall 0 _ rfl
  have h1 := hall 1 _ rfl
  have h2 := hall 2 _ rfl
  have h3 := hall 3 _ rfl
  have h4 := hall 4 _ rfl
  have h5 := hall 5 _ rfl
  match xs, hl with
  | [x0, x1, x2, x3, x4, x5], _ =>
    have h0 : DataW.trod enc Tryz.prog W base sp held m 3 [c0] = some x0 := h0
    have h1 : DataW.trod enc Tryz.prog W base sp held m 3 [c1] = some x1 := h1
    have h2 : DataW.trod enc Tryz.prog W base sp held m 3 [c2] = some x2 := h2
    have h3 : DataW.trod enc Tryz.prog W base sp held m 3 [c3] = some x3 := h3
    have h4 : DataW.trod enc Tryz.prog W base sp held m 9 [c4] = some x4 := h4
    have h5 : DataW.trod enc Tryz.prog W base sp held m 4 [c5] = some x5 := h5
    obtain ⟨k, e0, hx0, hw0⟩ := DataW.trod_int Tryz.underlying3 h0
    obtain ⟨a, e1, hx1, hw1⟩ := DataW.trod_int Tryz.underlying3 h1
    obtain ⟨b, e2, hx2, hw2⟩ := DataW.trod_int Tryz.underlying3 h2
    obtain ⟨c, e3, hx3, hw3⟩ := DataW.trod_int Tryz.underlying3 h3
    obtain ⟨s, e4, hx4, hw4⟩ := DataW.trod_string Tryz.underlying9 h4
    obtain ⟨y, e5, hx5⟩ := DataW.trod_bool Tryz.underlying4 h5
    simp only [List.cons.injEq, and_true] at e0 e1 e2 e3 e4 e5
    subst e0 e1 e2 e3 e4 e5 hx0 hx1 hx2 hx3 hx4 hx5
    refine ⟨⟨k, a, b, c, s, y⟩, rfl, ?_, hw0, hw1, hw2, hw3⟩
    rw [hx]
    rfl
theorem weights_elemS {H : Type} {P : Program} {e : TypeId} : ∀ {elems : List (DataW H)} {d : DataW H}, d ∈ elems → ∀ n ∈ d.weights P e, n ∈ DataW.weightsAll P e elems
  | x :: r, d, hd, n, hn => by
    rcases List.mem_cons.1 hd with rfl | h
    · simp [DataW.weightsAll, hn]
    · simp [DataW.weightsAll, weights_elemS h n hn]
set_option maxRecDepth 100000 in
theorem st_weights (H : Type) (o : StA) : o.s.size ∈ (stD H o).weights Tryz.prog 31 := by
  have e : (stD H o).weights Tryz.prog 31 = [o.s.size] := by
    unfold stD
    simp [DataW.weights, DataW.weightsEach, Tryz.underlying31]
    try exact rfl
  rw [e]; simp
set_option maxRecDepth 100000 in
set_option maxHeartbeats 1000000 in
theorem open_steps {H : Type} {enc : TypeId × Value → H} {W : World} {v : Value} {d : DataW H} {ps : List MemPlace} {ts : List TypeId} {ds : List (DataW H)} (hs : (DataW.weightsEach Tryz.prog ts ds).all (· ≤ reachBytes) = true) (ht : ts[0]? = some 25) (hd0 : ds[0]? = some d)
    (hval : Value.okWide Tryz.prog W .any 0 25 v) (h : DataW.Trod enc Tryz.prog W 0 (fun _ => true) true 25 v d ps) :
    v = .slice none 0 0 ∨ ∃ (a : Addr) (len cap : Nat) (os : Nat → StA), v = .slice (some a) len cap ∧ (0 < len → a.block < W.heap.size) ∧ len ≤ 3000000000000 ∧ (∀ i, i < len → StAt W (a.add (i * 6)) (os i)) ∧ (∀ i, i < len → StOk (os i)) := by
  obtain ⟨fuel, hf⟩ := h
  have hv : v.cells.toList = [v] := by
    obtain ⟨b, l, c, rfl⟩ := okWide_slice Tryz.underlying25 hval
    rfl
  rw [hv] at hf
  rcases Go.Deep.open_slice Tryz.underlying25 hf with ⟨h1, h2⟩ | ⟨a, len, cap, m, n, D, Pl, h1, _, hlc, _, hm, h2, hel⟩
  · simp only [List.cons.injEq, and_true] at h1
    exact .inl h1
  · simp only [List.cons.injEq, and_true] at h1
    subst h1
    right
    simp only [if_true] at hm
    subst hm
    simp only [Prod.mk.injEq] at h2
    obtain ⟨rfl, rfl⟩ := h2
    rw [cells31] at hel
    have hz := sized_slice hs ht hd0 Tryz.underlying25
    rw [bytes31] at hz
    simp only [List.length_map, List.length_range] at hz
    have hr : reachBytes ≤ 140737488351232 := by decide
    have hz2 := Nat.le_trans hz hr
    clear hz
    have hops : ∀ i, i < len → ∃ o : StA, StAt W (a.add (i * 6)) o ∧ D i = stD H o ∧ (Lit.int .i64 o.kind).wf = true ∧ (Lit.int .i64 o.a).wf = true ∧ (Lit.int .i64 o.b).wf = true ∧ (Lit.int .i64 o.c).wf = true := by
      intro i hi
      obtain ⟨cs', hc1, hc2⟩ := hel i (by omega)
      obtain ⟨_, hl, hcell⟩ := World.cells?_some hc1
      obtain ⟨o, e, e2, q⟩ := open_st hl hc2
      refine ⟨o, ?_, e2, q⟩
      intro j v hj
      rw [← e] at hj
      have hjl : j < 6 := by
        rcases Nat.lt_or_ge j 6 with h | h
        · exact h
        · rw [List.getElem?_eq_none (by omega)] at hj; cases hj
      rw [hcell j hjl]; exact hj
    have : Inhabited StA := ⟨⟨0, 0, 0, 0, ⟨#[]⟩, false⟩⟩
    obtain ⟨os, hos⟩ := Go.Deep.choose_lt hops
    refine ⟨a, len, _, os, rfl, ?_, by omega, fun i hi => (hos i hi).1, fun i hi => ?_⟩
    · intro h0
      have h1 := (hos 0 h0).1 0 _ rfl
      have h2 := World.block_lt_of_cell? _ _ h1
      rwa [add_blockS, add_blockS] at h2
    · obtain ⟨_, e, w1, w2, w3, w4⟩ := hos i hi
      have hmem : ∀ n ∈ (stD H (os i)).weights Tryz.prog 31, n ≤ 140737488351232 := by
        intro n hn
        have hD : stD H (os i) ∈ (List.range len).map D := by
          rw [← e]; exact List.mem_map.2 ⟨i, by simpa using hi, rfl⟩
        have hw := weights_elemS hD n hn
        have hall := List.all_eq_true.1 hs n (DataW.weights_mem_each ht hd0 n (by
          simp only [DataW.weights, Tryz.underlying25]
          exact List.mem_cons_of_mem _ (List.mem_append_left _ hw)))
        have : n ≤ reachBytes := by simpa using hall
        omega
      have hs1 := hmem _ (st_weights H (os i))
      exact ⟨(bounds_i64 w1).1, (bounds_i64 w1).2, (bounds_i64 w2).1, (bounds_i64 w2).2, (bounds_i64 w3).1, (bounds_i64 w3).2, (bounds_i64 w4).1, (bounds_i64 w4).2, by unfold maxLen; omega⟩
end Go.Proofs.YtgalgjmhdbncbaaGreat
namespace Go.Proofs.YtgalgjmhdbncbaaGreat
open Go.RowKit
attribute [local go_sem ↓] Go.wp_at_zero Go.wp_at_succ
theorem run_load31 (w : World) (a : Addr) (o : StA) (h : StAt w a o) : Sem.run Tryz.prog (LdT 31 (.pointer (some a))) w = .ok (.agg (stC o)) w := by
  have hl : (loadCells a (stC o).toList.length).run Tryz.prog w = .ok (stC o).toList.toArray w := run_loadCells_list (P := Tryz.prog) w a (stC o).toList h
  obtain ⟨i, hi, hs⟩ : ∃ i, Tryz.prog.info? 31 = some i ∧ i.size = 6 := by
    have h : (Tryz.prog.info? 31).map (·.size) = some 6 := by kernel_rfl
    rw [Option.map_eq_some_iff] at h
    exact h
  have hagg : (isAgg 31).run Tryz.prog w = .ok true w := by
    unfold isAgg
    rw [Sem.run_bind, run_underlying Tryz.underlying31 w]
    rfl
  have hl2 : (loadCells a 6).run Tryz.prog w = .ok (stC o) w := hl
  show Sem.run Tryz.prog (Instr.loadAt 31 (.pointer (some a))) w = _
  simp [Instr.loadAt, Instr.sureAddr, loadVar, Sem.run_bind, hagg, sizeOf, typeInfo, hi, hs, hl2]
theorem ldw31 (v : Value) : Instr.loadAt 31 v = LdT 31 v := rfl
attribute [local go_sem ↓] ldw31

def RgAt (W : World) (B g k : Nat) : Prop := ∃ sx t S H K G ov sg top, Rng W B g sx t S H K G ov sg top ∧ G.length ≤ k
theorem slice_of {w : World} {B : Nat} {sg : Value} {G : List Gv} (h : w.ownsRow B 72 3 sg G.length (gvL G)) : ∃ p cap, sg = .slice p G.length cap := by
  rcases h.2 with ⟨h, h0⟩ | ⟨q, cap, cur, h, _⟩
  · exact ⟨none, 0, by rw [h, h0]⟩
  · exact ⟨_, cap, h⟩
set_option maxRecDepth 100000 in
set_option maxHeartbeats 8000000 in
theorem fresh_law (a : Option Addr) (len cap : Nat) (os : Nat → StA) (w : World) (hsome : 0 < len → ∃ b, a = some b ∧ b.block < w.heap.size ∧ ∀ i, i < len → StAt w (b.add (i * 6)) (os i)) (hlen : len ≤ 3000000000000) (hok : ∀ i, i < len → StOk (os i)) :
    Calls Tryz.prog 5 #[.slice a len cap] w fun e w' => e = .returned (.bool true) ∧ Below w.heap.size w w' := by
  have HF : Hid _ := ffirst_any w
  have HS : Hid _ := hsome
  have HK : Hid _ := hok
  have HL : Hid _ := hlen
  clear hsome hok hlen
  go_enter Tryz.func5, Tryz.ntmps5
  go_wp2_with fail
  refine Calls.mono HF.out ?_
  rintro e w1 ⟨rfl, b1⟩
  have hop := opened_any w1 w.heap.size b1.size
  have HOP : Hid _ := hop
  have HB1 : Hid _ := b1
  clear hop b1
  go_wp2_with fail
  refine Calls.mono HOP.out ?_
  rintro e w2 ⟨g, sx0, t0, rfl, r2, b2⟩
  have H2 : Hid (RgAt w2 w.heap.size g 0 ∧ Below w.heap.size w w2) := ⟨⟨_, _, _, _, _, _, _, _, _, r2, Nat.le_refl _⟩, HB1.out.trans (b2.mono HB1.out.size)⟩
  clear r2 b2 HF HOP HB1
  go_wp2
  go_loopw [2, 3, 5] (fun _ ok i wr => ∃ k : Nat, k ≤ len ∧ i = .int .i64 k ∧ RgAt wr w.heap.size g k ∧ Below w.heap.size w wr) (fun _ _ i _ => len - (intOf i).toNat)
  case atStart => exact ⟨0, by omega, rfl, H2.out.1, H2.out.2⟩
  case round =>
    obtain ⟨k, hk, rfl, hI, hB⟩ := hrel
    by_cases hlt : k < len
    · obtain ⟨b, rfl, hab, hst⟩ := HS.out (by omega)
      obtain ⟨o, ho⟩ : ∃ o, os k = o := ⟨_, rfl⟩
      have hO := hst k hlt
      have hoo := HK.out k hlt
      rw [ho] at hO hoo
      have hL := run_load31 wr (b.add (k * 6)) o (fun j v hj => by rw [hB.cell (p := (b.add (k * 6)).add j) (by rw [add_blockS, add_blockS]; exact hab)]; exact hO j v hj)
      unfold stC at hL
      obtain ⟨sx, t, S, H, K, G, ov, sg, top, hR, hG⟩ := hI
      have hll := HL.out
      have hm : (k : Int) < 1152921504606846976 := by omega
      have hstep := step_any wr w.heap.size g sx t S H K G ov sg top o hoo hB.size (by omega) hR
      unfold ptr stC at hstep
      have HT : Hid _ := hstep
      have HBB : Hid _ := And.intro hB hG
      clear hO hoo hst hab hR hG hstep hB HS HK
      go_wp2_with fail
      refine Calls.mono HT.out ?_
      rintro e w3 ⟨rfl, ⟨sx3, t3, S3, H3, K3, G3, ov3, sg3, top3, r3, l3, _⟩, b3⟩
      have H4 : Hid (RgAt w3 w.heap.size g (k + 1) ∧ Below w.heap.size w w3) := ⟨⟨_, _, _, _, _, _, _, _, _, r3, by have := HBB.out.2; omega⟩, HBB.out.1.trans b3⟩
      clear r3 l3 b3
      go_wp2
      exact ⟨⟨k + 1, by omega, by go_num, H4.out.1, H4.out.2⟩, by simp [intOf]; omega⟩
    · obtain ⟨sx, t, S, H, K, G, ov, sg, top, hR, hG⟩ := hI
      have hll := HL.out
      have hcp := copied_any wr w.heap.size g sx t S K G ov sg top hB.size hR.base
      unfold ptr at hcp
      have HCP : Hid _ := hcp
      have HBB : Hid _ := hB
      clear hcp hR hB
      go_wp2_with fail
      refine Calls.mono HCP.out ?_
      rintro e w3 ⟨rfl, ⟨sx3, S3, r3, _⟩, b3⟩
      have hst := starts_any w3 w.heap.size g sx3 t S3 K G ov sg top (Nat.le_trans HBB.out.size b3.size) r3
      unfold ptr at hst
      have HST : Hid _ := hst
      have HB3 : Hid _ := HBB.out.trans b3
      clear hst r3 b3
      go_wp2_with fail
      refine Calls.mono HST.out ?_
      rintro e w4 ⟨rfl, ⟨t4, S4, H4, K4, r4, _⟩, b4⟩
      obtain ⟨p, cp, hsg⟩ := slice_of r4.o
      have HR4 : Hid _ := And.intro r4 (HB3.out.trans b4)
      clear r4 b4
      go_wp2
      go_loopw [3, 6] (fun ok i wr2 => ok = .bool true ∧ ∃ j : Nat, j ≤ G.length ∧ i = .int .i64 j ∧ Fr [] w4 wr2) (fun _ i _ => G.length - (intOf i).toNat)
      case atStart => exact ⟨rfl, 0, by omega, rfl, Fr.refl _ _⟩
      case round =>
        obtain ⟨rfl, j, hj, rfl, hF⟩ := hrel
        have R := HR4.out.1.fr0 hF
        have c18 := R.r.at18
        rw [hsg] at c18
        have hopn := opens_any wr w.heap.size g sx3 t4 S4 H4 K4 G sg top (j : Int) (by omega) (by omega) (by omega) R
        unfold ptr at hopn
        have HON : Hid _ := hopn
        have HFF : Hid _ := hF
        clear hopn hF R
        by_cases hj2 : j < G.length
        · go_wp2_with fail
          refine Calls.mono HON.out ?_
          rintro e w5 ⟨rfl, f5⟩
          have H5 : Hid _ := HFF.out.trans f5
          clear f5
          go_wp2
          exact ⟨⟨rfl, j + 1, by omega, by go_num, H5.out⟩, by simp [intOf]; omega⟩
        · go_wp2
          go_ret
          exact ⟨rfl, HR4.out.2.trans (HFF.out.low (Nat.le_trans HR4.out.2.size (Nat.le_refl _)) (by simp))⟩
end Go.Proofs.YtgalgjmhdbncbaaGreat
