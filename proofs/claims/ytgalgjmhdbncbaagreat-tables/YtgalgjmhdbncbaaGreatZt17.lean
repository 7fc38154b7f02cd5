import Derived.Test.YtgalgjmhdbncbaaGreatZt00
import Derived.Test.YtgalgjmhdbncbaaGreatZt16
import Derived.Test.YtgalgjmhdbncbaaGreatZt08
import Derived.Test.YtgalgjmhdbncbaaGreatZt13
import Derived.Test.YtgalgjmhdbncbaaGreatZt14
namespace Go.Proofs.YtgalgjmhdbncbaaGreat
attribute [local bitvec_to_nat] Act.put List.getElem_toArray List.getElem_cons_zero List.getElem_cons_succ List.setIfInBounds_toArray List.set_cons_zero List.set_cons_succ
open Go.RowKit
attribute [local go_sem ↓] Go.wp_at_zero Go.wp_at_succ

structure SHd (w W : World) (g o : Nat) (h : Hd) : Prop where
  hd : HdAt W g o h
  fr : Fr [] w W
  lt : g < W.heap.size
theorem SHd.drew {w W : World} {g o : Nat} {h : Hd} (s : SHd w W g o h) : SHd w W.drew g o h := ⟨s.hd.drew, s.fr.drew, s.lt⟩
theorem SHd.alloc {w W : World} {g o : Nat} {h : Hd} (s : SHd w W g o h) (x : Obj) : SHd w (W.alloc x) g o h := ⟨s.hd.block (Below.heap_alloc _ _ _ s.lt), s.fr.alloc x, by have := s.lt; simp; omega⟩
theorem SHd.below {w W W' : World} {g o : Nat} {h : Hd} (s : SHd w W g o h) (hb : Below W.heap.size W W') : SHd w W' g o h := ⟨s.hd.block (hb.block g s.lt), s.fr.trans (Fr.of_below [] hb (Nat.le_refl _)), Nat.lt_of_lt_of_le s.lt hb.size⟩
theorem SHd.cs {w W : World} {g o : Nat} {h : Hd} (s : SHd w W g o h) : W.cell? ⟨g, o + 1, none⟩ = some (.int .i64 h.c.alg) ∧ W.cell? ⟨g, o + 2, none⟩ = some (.int .i64 h.c.id) := ⟨s.hd.c1, s.hd.c2⟩
theorem SHd.set {w W : World} {g o gr j : Nat} {h : Hd} (s : SHd w W g o h) (hr : w.heap.size ≤ gr) (hn : g ≠ gr) (v : Value) : SHd w (W.setCell ⟨gr, j, none⟩ v) g o h := ⟨s.hd.block (heap_skip _ _ _ _ _ hn), Fr.setCell s.fr (.inl hr) v, by have := s.lt; simp; omega⟩
theorem SHd.set5 {w W : World} {g o gr : Nat} {h : Hd} (s : SHd w W g o h) (hr : w.heap.size ≤ gr) (hn : g ≠ gr) (v0 v1 v2 v3 v4 : Value) : SHd w (((((W.setCell ⟨gr, 0, none⟩ v0).setCell ⟨gr, 1, none⟩ v1).setCell ⟨gr, 2, none⟩ v2).setCell ⟨gr, 3, none⟩ v3).setCell ⟨gr, 4, none⟩ v4) g o h :=
  ((((s.set hr hn v0).set hr hn v1).set hr hn v2).set hr hn v3).set hr hn v4
def bump (H : Nat → Hd) (i : Nat) (j : Nat) : Hd := if j = i then ⟨(H i).c, (H i).ctr + 1⟩ else H j
theorem tab_bump {w : World} {g sx : Nat} {H : Nat → Hd} (h : TabP w g sx H) (i : Nat) (hi : i < 8) : TabP (w.setCell ⟨g, 1 + i * 10 + 9, none⟩ (.int .i64 (((H i).ctr + 1 : Nat) : Int))) g sx (bump H i) := by
  refine Row.congr (Row.set h _ _) (fun j hj => ?_)
  unfold tabF bump
  by_cases h0 : j = 0
  · subst h0
    rw [if_neg (by omega)]
    simp
  · obtain ⟨q, r, hr, rfl⟩ : ∃ q r, r < 10 ∧ j = 1 + q * 10 + r := ⟨(j - 1) / 10, (j - 1) % 10, by omega, by omega⟩
    rw [if_neg h0, show (1 + q * 10 + r - 1) / 10 = q by omega, show (1 + q * 10 + r - 1) % 10 = r by omega]
    by_cases hq : q = i
    · subst hq
      rw [if_pos rfl]
      by_cases h9 : r = 9
      · subst h9; rw [if_pos rfl]; rfl
      · rw [if_neg (by omega), if_neg h0]; simp [hdF, h9]
    · rw [if_neg hq, if_neg (by omega), if_neg h0]
theorem rec_set34 {w : World} {g : Nat} {v0 v1 v2 v3 v4 b t : Value} (h : w.heap[g]? = some (.cells #[v0, v1, v2, v3, v4] 52 (0, 0))) : ((w.setCell ⟨g, 3, none⟩ b).setCell ⟨g, 4, none⟩ t).heap[g]? = some (.cells #[v0, v1, v2, b, t] 52 (0, 0)) := by
  have h1 := heap_setCell_same w g 3 _ 52 b h
  have h2 := heap_setCell_same _ g 4 _ 52 t h1
  simpa using h2
structure S4 (w W : World) (gr gm gc g sx : Nat) (H' : Nat → Hd) (h : Hd) (p : ByteArray) : Prop where
  r : W.heap[gr]? = some (.cells #[.int .i64 h.c.alg, .int .i64 h.c.id, .string (hnonT h), .string p, .string ⟨#[]⟩] 52 (0, 0))
  m : Mod W gm gc h.c.key
  t : TabP W g sx H'
  f : Fr [g] w W
  l : g < gr
  l1 : g < gm
  l2 : g < gc
  lr : w.heap.size ≤ gr
theorem S4.lt {w W : World} {gr gm gc g sx : Nat} {H' : Nat → Hd} {h : Hd} {p : ByteArray} (s : S4 w W gr gm gc g sx H' h p) : gr < W.heap.size := by
  rcases Nat.lt_or_ge gr W.heap.size with hlt | hge
  · exact hlt
  · have := s.r; rw [Array.getElem?_eq_none hge] at this; cases this
theorem S4.drew {w W : World} {gr gm gc g sx : Nat} {H' : Nat → Hd} {h : Hd} {p : ByteArray} (s : S4 w W gr gm gc g sx H' h p) : S4 w W.drew gr gm gc g sx H' h p := ⟨s.r, s.m.drew, s.t.drew, s.f.drew, s.l, s.l1, s.l2, s.lr⟩
theorem S4.alloc {w W : World} {gr gm gc g sx : Nat} {H' : Nat → Hd} {h : Hd} {p : ByteArray} (s : S4 w W gr gm gc g sx H' h p) (x : Obj) : S4 w (W.alloc x) gr gm gc g sx H' h p := ⟨heap_of_old _ _ _ _ s.lt s.r, s.m.alloc x, Row.alloc s.t x, s.f.alloc x, s.l, s.l1, s.l2, s.lr⟩
theorem S4.below {w W W' : World} {gr gm gc g sx : Nat} {H' : Nat → Hd} {h : Hd} {p : ByteArray} (s : S4 w W gr gm gc g sx H' h p) (hb : Below W.heap.size W W') : S4 w W' gr gm gc g sx H' h p := ⟨by rw [hb.block _ s.lt]; exact s.r, s.m.keep hb, Row.keep s.t hb (Row.lt s.t), s.f.trans (Fr.of_below [g] hb (Nat.le_refl _)), s.l, s.l1, s.l2, s.lr⟩
theorem S4.setRow {w W : World} {gr gm gc g sx gt : Nat} {H' : Nat → Hd} {h : Hd} {p : ByteArray} (s : S4 w W gr gm gc g sx H' h p) (h1 : gt ≠ gr) (h2 : gt ≠ gm) (h3 : gt ≠ gc) (h4 : gt ≠ g) (h5 : w.heap.size ≤ gt) (cs : Array Value) : S4 w (W.setRow gt cs) gr gm gc g sx H' h p :=
  ⟨by rw [setRow_other _ _ _ _ (Ne.symm h1)]; exact s.r, ⟨Row.setRow_other s.m.r (Ne.symm h2), Row.setRow_other s.m.c (Ne.symm h3)⟩, Row.setRow_other s.t (Ne.symm h4), ⟨s.f.os, s.f.tape, s.f.output, by simpa using s.f.size, fun k hk hn => by rw [setRow_other _ _ _ _ (by omega)]; exact s.f.block k hk hn⟩, s.l, s.l1, s.l2, s.lr⟩
attribute [local go_sem ↓] ldw40 stw40 al40
attribute [local go_sem] run_ldT40 ldN_row run_stT40 stN_row stN_z run_al40
attribute [local go_sem] blk_new blk_at blk_old blk_drew blk_setCell blk_setRow alloc_setRow
def sealR (h : Hd) (m p : ByteArray) : ByteArray := encT h.c.alg h.c.id (hnonT h) (maskT h.c.key (firstF h.c.key (hnonT h)) p) (str 16 (tagF h.c.key (firstF h.c.key (hnonT h)) (headT h.c.alg h.c.id (hnonT h) p ++ m) (maskT h.c.key (firstF h.c.key (hnonT h)) p)))
structure SR1 (w W : World) (gr g o : Nat) (h : Hd) (p : ByteArray) : Prop where
  s : SHd w W g o h
  r : W.heap[gr]? = some (.cells #[.int .i64 h.c.alg, .int .i64 h.c.id, .string (hnonT h), .string p, .string ⟨#[]⟩] 52 (0, 0))
  ge : w.heap.size ≤ gr
set_option maxRecDepth 100000 in
set_option maxHeartbeats 8000000 in
theorem hseal_any (g sx : Nat) (H : Nat → Hd) (i : Nat) (m p : ByteArray) (hi : i < 8) (hc : ClOk (H i).c) (hs : (H i).c.st = 1) (hct : (H i).ctr ≤ 1000000) (hm : m.size ≤ 180) (hp : p.size ≤ 200) (w : World) (hT : TabP w g sx H) :
    Calls Tryz.prog 43 #[.pointer (some ⟨g, 1 + i * 10, none⟩), .string m, .string p] w fun e w' => e = .returned (.string (sealR (H i) m p)) ∧ TabP w' g sx (bump H i) ∧ Fr [g] w w' := by
  obtain ⟨h, hh⟩ : ∃ h, H i = h := ⟨_, rfl⟩
  obtain ⟨o, ho⟩ : ∃ o, 1 + i * 10 = o := ⟨_, rfl⟩
  have hA := hT.hd i hi
  rw [hh] at hc hs hct hA
  rw [ho] at hA ⊢
  rw [hh]
  have hlt := Row.lt hT
  have hnon := fun W hg ha => nonce_any g o h hct hc.fix W hg ha
  have NON : Hid _ := hnon
  have hkey := hc.key
  rw [hs, if_pos rfl] at hkey
  have halg := hc.alg
  have hnz : (hnonT h).size = 12 := by unfold hnonT; rw [ByteArray.size_append, hc.fix, numT_size]
  have hmx : h.c.key.size ≤ maxLen := by unfold maxLen; omega
  have hkl : KeyLen h.c.key.size := by unfold KeyLen; omega
  have hbnd := fun W => bound_any h.c.alg h.c.id (hnonT h) p ⟨#[]⟩ m halg.1 halg.2 hc.id hnz hp (by decide) (by omega) W
  unfold recV at hbnd
  have hmz : (headT h.c.alg h.c.id (hnonT h) p ++ m).size ≤ 200 := by unfold headT; rw [ByteArray.size_append, str_size]; omega
  have hmsl := fun gm gc W hM => mseal_any gm gc h.c.key (hnonT h) (headT h.c.alg h.c.id (hnonT h) p ++ m) p hkl (by omega) hmz hp W hM
  have henc := fun W => rencode_yes h.c.alg h.c.id (hnonT h) (maskT h.c.key (firstF h.c.key (hnonT h)) p) (str 16 (tagF h.c.key (firstF h.c.key (hnonT h)) (headT h.c.alg h.c.id (hnonT h) p ++ m) (maskT h.c.key (firstF h.c.key (hnonT h)) p))) halg.1 halg.2 hc.id hnz (by rw [maskT_size]; exact hp) (str_size _ _) W
  unfold recV at henc
  have ENC : Hid _ := henc
  unfold sealR
  clear henc
  have HKM : Hid _ := hmx
  have HKL : Hid _ := hkl
  have BND : Hid _ := hbnd
  have MSL : Hid _ := hmsl
  have HNZ : Hid _ := hnz
  clear hnon hkey hnz hmx hkl hbnd hmz hmsl
  have S0 : SHd w w g o h := ⟨hA, Fr.refl _ _, hlt⟩
  clear hA
  go_enter Tryz.func43, Tryz.ntmps43
  go_wp2_with fail
  refine wp_region_held_drew (S := fun W' => SHd w W' g o h) (by kernel_rfl) (SHd.drew S0) (fun hHeld => ?_)
  refine tk 0 ?v1 ?y1 ?r1
  case y1 => (intro W' hW; go_simp; try with_reducible rfl)
  try simp only [bitvec_to_nat]
  refine tk 1 ?v2 ?y2 ?r2
  case y2 => (intro W' hW; go_simp; try with_reducible rfl)
  try simp only [bitvec_to_nat]
  refine tk 2 ?v3 ?y3 ?r3
  case y3 => (intro W' hW; go_simp; try with_reducible rfl)
  try simp only [bitvec_to_nat]
  refine tk 3 ?v4 ?y4 ?r4
  case y4 => (intro W' hW; go_simp; try with_reducible rfl)
  try simp only [bitvec_to_nat]
  refine tk 4 ?v5 ?y5 ?r5
  case y5 => (intro W' hW; obtain ⟨d1, d2⟩ := hW.cs; go_simp; try with_reducible rfl)
  try simp only [bitvec_to_nat]
  refine tk 5 ?v6 ?y6 ?r6
  case y6 => (intro W' hW; go_simp; try with_reducible rfl)
  try simp only [bitvec_to_nat]
  refine tk 6 ?v7 ?y7 ?r7
  case y7 => (intro W' hW; go_simp; try with_reducible rfl)
  try simp only [bitvec_to_nat]
  refine tk 7 ?v8 ?y8 ?r8
  case y8 => (intro W' hW; go_simp; try with_reducible rfl)
  try simp only [bitvec_to_nat]
  refine tk 8 ?v9 ?y9 ?r9
  case y9 => (intro W' hW; go_simp; try with_reducible rfl)
  try simp only [bitvec_to_nat]
  refine tk 9 ?v10 ?y10 ?r10
  case y10 => (intro W' hW; obtain ⟨d1, d2⟩ := hW.cs; go_simp; try with_reducible rfl)
  try simp only [bitvec_to_nat]
  refine tk 10 ?v11 ?y11 ?r11
  case y11 => (intro W' hW; go_simp; try with_reducible rfl)
  try simp only [bitvec_to_nat]
  refine tk 12 ?v12 ?y12 ?r12
  case y12 => (intro W' hW; go_simp; try with_reducible rfl)
  try simp only [bitvec_to_nat]
  refine wpAnyH_ready (rs := [11, 14]) (by kernel_rfl) (by simp) ?_
  refine AllReadyH.cons rfl (fun K hK => ?A1) (AllReadyH.cons rfl (fun K hK => ?B1) AllReadyH.nil)
  case A1 =>
    go_simp
    refine (NON.out _ hHeld.lt hHeld.hd).mono ?_
    rintro e wa ⟨rfl, ba⟩
    have Sa := SHd.below hHeld ba
    go_wp2_with fail
    refine hK.out _ _ Sa (fun hHeld => ?_)
    clear hK K
    refine tk 13 ?v13 ?y13 ?r13
    case y13 => (intro W' hW; go_simp; try with_reducible rfl)
    try simp only [bitvec_to_nat]
    refine wpAnyH_ready (rs := [14]) (by kernel_rfl) (by simp) ?_
    refine AllReadyH.cons rfl (fun K hK => ?_) AllReadyH.nil
    go_simp
    refine hK.out _ _ (SHd.alloc hHeld _) (fun hHeld => ?_)
    clear hK K
    refine wpAnyH_ready (rs := [15]) (by kernel_rfl) (by simp) ?_
    refine AllReadyH.cons rfl (fun K hK => ?_) AllReadyH.nil
    go_simp
    refine hK.out _ _ (SHd.alloc Sa _) (fun hHeld => ?_)
    clear hK K
    refine wpAnyH_done (by kernel_rfl) ?_ _
    have X1 : SR1 w (wa.alloc (.cells #[.int .i64 h.c.alg, .int .i64 h.c.id, .string (hnonT h), .string p, .string ⟨#[]⟩] 52)) wa.heap.size g o h p := ⟨SHd.alloc Sa _, heap_of_new _ _ _ rfl, Sa.fr.size⟩
    clear hHeld Sa ba S0
    generalize wa.alloc (.cells #[.int .i64 h.c.alg, .int .i64 h.c.id, .string (hnonT h), .string p, .string ⟨#[]⟩] 52) = W2 at *
    generalize wa.heap.size = gr at *
    have T2 : TabP W2 g sx H := Row.fr hT X1.s.fr (by simp)
    have c9 := X1.s.hd.c9
    have f9 := Row.frozen T2 (o + 9)
    have hgg : g < gr := by have := X1.ge; omega
    have T3 := tab_bump T2 i hi
    rw [hh, ho] at T3
    have r3 := heap_skip W2 g gr (o + 9) (.int .i64 ((h.ctr + 1 : Nat) : Int)) (by omega)
    rw [X1.r] at r3
    have F3 : Fr [g] w (W2.setCell ⟨g, o + 9, none⟩ (.int .i64 ((h.ctr + 1 : Nat) : Int))) := Fr.setCell (X1.s.fr.sub (by simp)) (.inr (by simp)) _
    rw [show ((h.ctr + 1 : Nat) : Int) = (h.ctr : Int) + 1 by omega] at T3 r3 F3
    have hK8 := (T3.hd i hi).c8
    rw [ho] at hK8
    have hKey : (bump H i i).c.key = h.c.key := by unfold bump; rw [if_pos rfl, hh]
    rw [hKey] at hK8
    have hwr := X1.ge
    clear X1 T2
    go_wp2_with fail
    refine (gnew_yes h.c.key HKM.out HKL.out _).mono ?_
    rintro e w4 ⟨gm, gc, rfl, hgm, hgc, M4, b4⟩
    simp at hgm hgc
    have y4 := b4.size
    simp at y4
    have hgrl : gr < W2.heap.size := by
      have := r3
      rcases Nat.lt_or_ge gr W2.heap.size with hlt2 | hge2
      · exact hlt2
      · rw [Array.getElem?_eq_none (by simpa using hge2)] at this; cases this
    have Z4 : S4 w w4 gr gm gc g sx (bump H i) h p := ⟨by rw [b4.block _ (by simpa using hgrl)]; exact r3, M4, Row.keep T3 b4 (Row.lt T3), F3.trans (Fr.of_below [g] b4 (Nat.le_refl _)), hgg, by omega, by omega, hwr⟩
    clear b4 M4 T3 r3 F3 c9 f9 hK8 hKey
    go_wp2_with fail
    refine wp_region_held_drew (S := fun W' => S4 w W' gr gm gc g sx (bump H i) h p) (by kernel_rfl) (S4.drew Z4) (fun hHeld => ?_)
    refine tk 0 ?v16 ?y16 ?r16
    case y16 => (intro W' hW; go_simp; try with_reducible rfl)
    try simp only [bitvec_to_nat]
    refine tk 1 ?v17 ?y17 ?r17
    case y17 => (intro W' hW; go_simp; try with_reducible rfl)
    try simp only [bitvec_to_nat]
    refine tk 2 ?v18 ?y18 ?r18
    case y18 => (intro W' hW; obtain ⟨q0, q1, q2, q3, q4⟩ := cells5 hW.r; go_simp; try with_reducible rfl)
    try simp only [bitvec_to_nat]
    refine tk 3 ?v19 ?y19 ?r19
    case y19 => (intro W' hW; obtain ⟨q0, q1, q2, q3, q4⟩ := cells5 hW.r; go_simp; try with_reducible rfl)
    try simp only [bitvec_to_nat]
    refine tk 4 ?v20 ?y20 ?r20
    case y20 => (intro W' hW; go_simp; try with_reducible rfl)
    try simp only [bitvec_to_nat]
    refine tk 6 ?v21 ?y21 ?r21
    case y21 => (intro W' hW; go_simp; try with_reducible rfl)
    try simp only [bitvec_to_nat]
    refine wpAnyH_ready (rs := [5, 11]) (by kernel_rfl) (by simp) ?_
    refine AllReadyH.cons rfl (fun K hK => ?A215) (AllReadyH.cons rfl (fun K hK => ?B215) AllReadyH.nil)
    case A215 =>
      go_simp
      refine (BND.out _).mono ?_
      rintro e wb ⟨rfl, bb⟩
      have Zb := S4.below hHeld bb
      go_wp2_with fail
      refine hK.out _ _ Zb (fun hHeld => ?_)
      clear hK K
      refine wpAnyH_ready (rs := [7, 11]) (by kernel_rfl) (by simp) ?_
      refine AllReadyH.cons rfl (fun K hK => ?A315) (AllReadyH.cons rfl (fun K hK => ?B315) AllReadyH.nil)
      case A315 =>
        go_simp
        refine (MSL.out _ _ _ hHeld.m).mono ?_
        rintro e wc ⟨rfl, bc⟩
        have Zc := S4.below hHeld bc
        go_wp2_with fail
        refine hK.out _ _ Zc (fun hHeld => ?_)
        clear hK K
        refine tk 8 ?v22 ?y22 ?r22
        case y22 => (intro W' hW; go_simp; try with_reducible rfl)
        try simp only [bitvec_to_nat]
        refine tk 9 ?v23 ?y23 ?r23
        case y23 => (intro W' hW; go_simp; try with_reducible rfl)
        try simp only [bitvec_to_nat]
        refine tk 10 ?v24 ?y24 ?r24
        case y24 => (intro W' hW; go_simp; try with_reducible rfl)
        try simp only [bitvec_to_nat]
        refine wpAnyH_ready (rs := [11]) (by kernel_rfl) (by simp) ?_
        refine AllReadyH.cons rfl (fun K hK => ?_) AllReadyH.nil
        go_simp
        refine hK.out _ _ (S4.alloc hHeld _) (fun hHeld => ?_)
        clear hK K
        refine tk 12 ?v25 ?y25 ?r25
        case y25 => (intro W' hW; go_simp; try with_reducible rfl)
        try simp only [bitvec_to_nat]
        refine wpAnyH_ready (rs := [13]) (by kernel_rfl) (by simp) ?_
        refine AllReadyH.cons rfl (fun K hK => ?_) AllReadyH.nil
        go_simp
        refine hK.out _ _ (S4.alloc Zc _) (fun hHeld => ?_)
        clear hK K
        refine wpAnyH_done (by kernel_rfl) ?_ _
        have ZZ : S4 w (wc.alloc (.cells (arr 16 (by8 (tagF h.c.key (firstF h.c.key (hnonT h)) (headT h.c.alg h.c.id (hnonT h) p ++ m) (maskT h.c.key (firstF h.c.key (hnonT h)) p)))) 145)) gr gm gc g sx (bump H i) h p := S4.alloc Zc _
        have RT : Row (wc.alloc (.cells (arr 16 (by8 (tagF h.c.key (firstF h.c.key (hnonT h)) (headT h.c.alg h.c.id (hnonT h) p ++ m) (maskT h.c.key (firstF h.c.key (hnonT h)) p)))) 145)) (wc.heap.size) 16 145 (by8 (tagF h.c.key (firstF h.c.key (hnonT h)) (headT h.c.alg h.c.id (hnonT h) p ++ m) (maskT h.c.key (firstF h.c.key (hnonT h)) p))) := Row.new _ _ _ _ _ rfl
        generalize wc.alloc (.cells (arr 16 (by8 (tagF h.c.key (firstF h.c.key (hnonT h)) (headT h.c.alg h.c.id (hnonT h) p ++ m) (maskT h.c.key (firstF h.c.key (hnonT h)) p)))) 145) = W6 at *
        generalize wc.heap.size = gt at *
        clear hHeld Z4
        have q6 := heap_pos RT
        go_wp2_with fail
        refine (text_any _ _).mono ?_
        rintro e w7 ⟨rfl, b7⟩
        have Z7 := S4.below ZZ b7
        obtain ⟨e0, e1, e2, e3, e4⟩ := cells5 Z7.r
        have fz := fun j => frozen_of_row _ _ j _ _ Z7.r
        have r8 := rec_set34 (w := w7) (g := gr) (b := .string (maskT h.c.key (firstF h.c.key (hnonT h)) p)) (t := .string (str 16 (tagF h.c.key (firstF h.c.key (hnonT h)) (headT h.c.alg h.c.id (hnonT h) p ++ m) (maskT h.c.key (firstF h.c.key (hnonT h)) p)))) Z7.r
        have T8 := Row.other (Row.other Z7.t (g' := gr) (k := 3) (v := .string (maskT h.c.key (firstF h.c.key (hnonT h)) p)) (by have := Z7.l; omega)) (g' := gr) (k := 4) (v := .string (str 16 (tagF h.c.key (firstF h.c.key (hnonT h)) (headT h.c.alg h.c.id (hnonT h) p ++ m) (maskT h.c.key (firstF h.c.key (hnonT h)) p)))) (by have := Z7.l; omega)
        have F8 := Fr.setCell (a := ⟨gr, 4, none⟩) (Fr.setCell (a := ⟨gr, 3, none⟩) Z7.f (.inl Z7.lr) (.string (maskT h.c.key (firstF h.c.key (hnonT h)) p))) (.inl Z7.lr) (.string (str 16 (tagF h.c.key (firstF h.c.key (hnonT h)) (headT h.c.alg h.c.id (hnonT h) p ++ m) (maskT h.c.key (firstF h.c.key (hnonT h)) p))))
        have HT8 : Hid _ := T8
        have HF8 : Hid _ := F8
        have HR8 : Hid _ := r8
        clear T8 F8 r8 q6 RT ZZ b7 Z7
        go_wp2_with fail
        refine (ENC.out _).mono ?_
        rintro e w9 ⟨rfl, b9⟩
        have T9 := Row.keep HT8.out b9 (Row.lt HT8.out)
        have F9 := HF8.out.trans (Fr.of_below [g] b9 (Nat.le_refl _))
        clear HT8 HF8 HR8 b9 e0 e1 e2 e3 e4 fz
        go_wp2
        go_ret
        exact ⟨rfl, T9, F9⟩
      case B315 =>
        go_simp
        refine hK.out _ _ (S4.alloc hHeld _) (fun hHeld => ?_)
        clear hK K
        refine wpAnyH_ready (rs := [7]) (by kernel_rfl) (by simp) ?_
        refine AllReadyH.cons rfl (fun K hK => ?_) AllReadyH.nil
        go_simp
        refine (MSL.out _ _ _ hHeld.m).mono ?_
        rintro e wc ⟨rfl, bc⟩
        have Zc := S4.below hHeld bc
        go_wp2_with fail
        refine hK.out _ _ Zc (fun hHeld => ?_)
        clear hK K
        refine tk 8 ?v26 ?y26 ?r26
        case y26 => (intro W' hW; go_simp; try with_reducible rfl)
        try simp only [bitvec_to_nat]
        refine tk 9 ?v27 ?y27 ?r27
        case y27 => (intro W' hW; go_simp; try with_reducible rfl)
        try simp only [bitvec_to_nat]
        refine tk 10 ?v28 ?y28 ?r28
        case y28 => (intro W' hW; go_simp; try with_reducible rfl)
        try simp only [bitvec_to_nat]
        refine tk 12 ?v29 ?y29 ?r29
        case y29 => (intro W' hW; go_simp; try with_reducible rfl)
        try simp only [bitvec_to_nat]
        refine wpAnyH_ready (rs := [13]) (by kernel_rfl) (by simp) ?_
        refine AllReadyH.cons rfl (fun K hK => ?_) AllReadyH.nil
        have hzt : Row wc wb.heap.size 16 145 z8 := Row.keep (Row.new wb 16 145 z8 _ rfl) bc (by simp)
        have qz := heap_pos hzt
        go_simp
        refine hK.out _ _ (S4.setRow Zc (by have := Zb.lt; omega) (by have := Zb.m.lt; omega) (by have := Zb.m.lt; omega) (by have := Row.lt Zb.t; omega) (by have := Zb.f.size; omega) _) (fun hHeld => ?_)
        clear hK K
        refine wpAnyH_done (by kernel_rfl) ?_ _
        have ZZ : S4 w (wc.setRow wb.heap.size (arr 16 (by8 (tagF h.c.key (firstF h.c.key (hnonT h)) (headT h.c.alg h.c.id (hnonT h) p ++ m) (maskT h.c.key (firstF h.c.key (hnonT h)) p))))) gr gm gc g sx (bump H i) h p := S4.setRow Zc (by have := Zb.lt; omega) (by have := Zb.m.lt; omega) (by have := Zb.m.lt; omega) (by have := Row.lt Zb.t; omega) (by have := Zb.f.size; omega) _
        have RT : Row (wc.setRow wb.heap.size (arr 16 (by8 (tagF h.c.key (firstF h.c.key (hnonT h)) (headT h.c.alg h.c.id (hnonT h) p ++ m) (maskT h.c.key (firstF h.c.key (hnonT h)) p))))) (wb.heap.size) 16 145 (by8 (tagF h.c.key (firstF h.c.key (hnonT h)) (headT h.c.alg h.c.id (hnonT h) p ++ m) (maskT h.c.key (firstF h.c.key (hnonT h)) p))) := hzt.setRow
        generalize wc.setRow wb.heap.size (arr 16 (by8 (tagF h.c.key (firstF h.c.key (hnonT h)) (headT h.c.alg h.c.id (hnonT h) p ++ m) (maskT h.c.key (firstF h.c.key (hnonT h)) p)))) = W6 at *
        generalize wb.heap.size = gt at *
        clear hHeld Z4
        have q6 := heap_pos RT
        go_wp2_with fail
        refine (text_any _ _).mono ?_
        rintro e w7 ⟨rfl, b7⟩
        have Z7 := S4.below ZZ b7
        obtain ⟨e0, e1, e2, e3, e4⟩ := cells5 Z7.r
        have fz := fun j => frozen_of_row _ _ j _ _ Z7.r
        have r8 := rec_set34 (w := w7) (g := gr) (b := .string (maskT h.c.key (firstF h.c.key (hnonT h)) p)) (t := .string (str 16 (tagF h.c.key (firstF h.c.key (hnonT h)) (headT h.c.alg h.c.id (hnonT h) p ++ m) (maskT h.c.key (firstF h.c.key (hnonT h)) p)))) Z7.r
        have T8 := Row.other (Row.other Z7.t (g' := gr) (k := 3) (v := .string (maskT h.c.key (firstF h.c.key (hnonT h)) p)) (by have := Z7.l; omega)) (g' := gr) (k := 4) (v := .string (str 16 (tagF h.c.key (firstF h.c.key (hnonT h)) (headT h.c.alg h.c.id (hnonT h) p ++ m) (maskT h.c.key (firstF h.c.key (hnonT h)) p)))) (by have := Z7.l; omega)
        have F8 := Fr.setCell (a := ⟨gr, 4, none⟩) (Fr.setCell (a := ⟨gr, 3, none⟩) Z7.f (.inl Z7.lr) (.string (maskT h.c.key (firstF h.c.key (hnonT h)) p))) (.inl Z7.lr) (.string (str 16 (tagF h.c.key (firstF h.c.key (hnonT h)) (headT h.c.alg h.c.id (hnonT h) p ++ m) (maskT h.c.key (firstF h.c.key (hnonT h)) p))))
        have HT8 : Hid _ := T8
        have HF8 : Hid _ := F8
        have HR8 : Hid _ := r8
        clear T8 F8 r8 q6 RT ZZ b7 Z7
        go_wp2_with fail
        refine (ENC.out _).mono ?_
        rintro e w9 ⟨rfl, b9⟩
        have T9 := Row.keep HT8.out b9 (Row.lt HT8.out)
        have F9 := HF8.out.trans (Fr.of_below [g] b9 (Nat.le_refl _))
        clear HT8 HF8 HR8 b9 e0 e1 e2 e3 e4 fz
        go_wp2
        go_ret
        exact ⟨rfl, T9, F9⟩
    case B215 =>
      go_simp
      refine hK.out _ _ (S4.alloc hHeld _) (fun hHeld => ?_)
      clear hK K
      refine wpAnyH_ready (rs := [5]) (by kernel_rfl) (by simp) ?_
      refine AllReadyH.cons rfl (fun K hK => ?_) AllReadyH.nil
      go_simp
      refine (BND.out _).mono ?_
      rintro e wb ⟨rfl, bb⟩
      have Zb := S4.below hHeld bb
      go_wp2_with fail
      refine hK.out _ _ Zb (fun hHeld => ?_)
      clear hK K
      refine wpAnyH_ready (rs := [7]) (by kernel_rfl) (by simp) ?_
      refine AllReadyH.cons rfl (fun K hK => ?_) AllReadyH.nil
      go_simp
      refine (MSL.out _ _ _ hHeld.m).mono ?_
      rintro e wc ⟨rfl, bc⟩
      have Zc := S4.below hHeld bc
      go_wp2_with fail
      refine hK.out _ _ Zc (fun hHeld => ?_)
      clear hK K
      refine tk 8 ?v30 ?y30 ?r30
      case y30 => (intro W' hW; go_simp; try with_reducible rfl)
      try simp only [bitvec_to_nat]
      refine tk 9 ?v31 ?y31 ?r31
      case y31 => (intro W' hW; go_simp; try with_reducible rfl)
      try simp only [bitvec_to_nat]
      refine tk 10 ?v32 ?y32 ?r32
      case y32 => (intro W' hW; go_simp; try with_reducible rfl)
      try simp only [bitvec_to_nat]
      refine tk 12 ?v33 ?y33 ?r33
      case y33 => (intro W' hW; go_simp; try with_reducible rfl)
      try simp only [bitvec_to_nat]
      refine wpAnyH_ready (rs := [13]) (by kernel_rfl) (by simp) ?_
      refine AllReadyH.cons rfl (fun K hK => ?_) AllReadyH.nil
      have hzt : Row wc w4.heap.size 16 145 z8 := Row.keep (Row.keep (Row.new w4.drew 16 145 z8 _ rfl) bb (by simp)) bc (by have := bb.size; simp at this; omega)
      have qz := heap_pos hzt
      go_simp
      refine hK.out _ _ (S4.setRow Zc (by have := Z4.lt; omega) (by have := Z4.m.lt; omega) (by have := Z4.m.lt; omega) (by have := Row.lt Z4.t; omega) (by have := Z4.f.size; omega) _) (fun hHeld => ?_)
      clear hK K
      refine wpAnyH_done (by kernel_rfl) ?_ _
      have ZZ : S4 w (wc.setRow w4.heap.size (arr 16 (by8 (tagF h.c.key (firstF h.c.key (hnonT h)) (headT h.c.alg h.c.id (hnonT h) p ++ m) (maskT h.c.key (firstF h.c.key (hnonT h)) p))))) gr gm gc g sx (bump H i) h p := S4.setRow Zc (by have := Z4.lt; omega) (by have := Z4.m.lt; omega) (by have := Z4.m.lt; omega) (by have := Row.lt Z4.t; omega) (by have := Z4.f.size; omega) _
      have RT : Row (wc.setRow w4.heap.size (arr 16 (by8 (tagF h.c.key (firstF h.c.key (hnonT h)) (headT h.c.alg h.c.id (hnonT h) p ++ m) (maskT h.c.key (firstF h.c.key (hnonT h)) p))))) (w4.heap.size) 16 145 (by8 (tagF h.c.key (firstF h.c.key (hnonT h)) (headT h.c.alg h.c.id (hnonT h) p ++ m) (maskT h.c.key (firstF h.c.key (hnonT h)) p))) := hzt.setRow
      generalize wc.setRow w4.heap.size (arr 16 (by8 (tagF h.c.key (firstF h.c.key (hnonT h)) (headT h.c.alg h.c.id (hnonT h) p ++ m) (maskT h.c.key (firstF h.c.key (hnonT h)) p)))) = W6 at *
      generalize w4.heap.size = gt at *
      clear hHeld Z4
      have q6 := heap_pos RT
      go_wp2_with fail
      refine (text_any _ _).mono ?_
      rintro e w7 ⟨rfl, b7⟩
      have Z7 := S4.below ZZ b7
      obtain ⟨e0, e1, e2, e3, e4⟩ := cells5 Z7.r
      have fz := fun j => frozen_of_row _ _ j _ _ Z7.r
      have r8 := rec_set34 (w := w7) (g := gr) (b := .string (maskT h.c.key (firstF h.c.key (hnonT h)) p)) (t := .string (str 16 (tagF h.c.key (firstF h.c.key (hnonT h)) (headT h.c.alg h.c.id (hnonT h) p ++ m) (maskT h.c.key (firstF h.c.key (hnonT h)) p)))) Z7.r
      have T8 := Row.other (Row.other Z7.t (g' := gr) (k := 3) (v := .string (maskT h.c.key (firstF h.c.key (hnonT h)) p)) (by have := Z7.l; omega)) (g' := gr) (k := 4) (v := .string (str 16 (tagF h.c.key (firstF h.c.key (hnonT h)) (headT h.c.alg h.c.id (hnonT h) p ++ m) (maskT h.c.key (firstF h.c.key (hnonT h)) p)))) (by have := Z7.l; omega)
      have F8 := Fr.setCell (a := ⟨gr, 4, none⟩) (Fr.setCell (a := ⟨gr, 3, none⟩) Z7.f (.inl Z7.lr) (.string (maskT h.c.key (firstF h.c.key (hnonT h)) p))) (.inl Z7.lr) (.string (str 16 (tagF h.c.key (firstF h.c.key (hnonT h)) (headT h.c.alg h.c.id (hnonT h) p ++ m) (maskT h.c.key (firstF h.c.key (hnonT h)) p))))
      have HT8 : Hid _ := T8
      have HF8 : Hid _ := F8
      have HR8 : Hid _ := r8
      clear T8 F8 r8 q6 RT ZZ b7 Z7
      go_wp2_with fail
      refine (ENC.out _).mono ?_
      rintro e w9 ⟨rfl, b9⟩
      have T9 := Row.keep HT8.out b9 (Row.lt HT8.out)
      have F9 := HF8.out.trans (Fr.of_below [g] b9 (Nat.le_refl _))
      clear HT8 HF8 HR8 b9 e0 e1 e2 e3 e4 fz
      go_wp2
      go_ret
      exact ⟨rfl, T9, F9⟩
  case B1 =>
    go_simp
    refine hK.out _ _ (SHd.alloc hHeld _) (fun hHeld => ?_)
    clear hK K
    refine wpAnyH_ready (rs := [11]) (by kernel_rfl) (by simp) ?_
    refine AllReadyH.cons rfl (fun K hK => ?_) AllReadyH.nil
    go_simp
    refine (NON.out _ hHeld.lt hHeld.hd).mono ?_
    rintro e wa ⟨rfl, ba⟩
    have Sa := SHd.below hHeld ba
    go_wp2_with fail
    refine hK.out _ _ Sa (fun hHeld => ?_)
    clear hK K
    refine tk 13 ?v14 ?y14 ?r14
    case y14 => (intro W' hW; go_simp; try with_reducible rfl)
    try simp only [bitvec_to_nat]
    refine wpAnyH_ready (rs := [15]) (by kernel_rfl) (by simp) ?_
    refine AllReadyH.cons rfl (fun K hK => ?_) AllReadyH.nil
    have hzr : wa.heap[w.heap.size]? = some (.cells zrec 52 (0, 0)) := by rw [ba.block _ (by simp)]; exact heap_of_new w _ _ rfl
    obtain ⟨z0, z1, z2, z3, z4⟩ := zero_cells hzr
    have f0 := fun j => frozen_of_row _ _ j _ _ hzr
    go_simp
    refine hK.out _ _ (SHd.set5 Sa (Nat.le_refl _) (by omega) _ _ _ _ _) (fun hHeld => ?_)
    clear hK K
    refine wpAnyH_done (by kernel_rfl) ?_ _
    obtain ⟨gr, hgr⟩ : ∃ gr, w.heap.size = gr := ⟨_, rfl⟩
    have hge : w.heap.size ≤ gr := by omega
    have X0 := SHd.set5 Sa (gr := w.heap.size) (Nat.le_refl _) (by omega) (.int .i64 h.c.alg) (.int .i64 h.c.id) (.string (hnonT h)) (.string p) (.string ⟨#[]⟩)
    have Y0 := heap_five (.int .i64 h.c.alg) (.int .i64 h.c.id) (.string (hnonT h)) (.string p) (.string ⟨#[]⟩) hzr
    clear hHeld Sa ba S0 z0 z1 z2 z3 z4 f0 hzr
    generalize ((((wa.setCell ⟨w.heap.size, 0, none⟩ (.int .i64 h.c.alg)).setCell ⟨w.heap.size, 1, none⟩ (.int .i64 h.c.id)).setCell ⟨w.heap.size, 2, none⟩ (.string (hnonT h))).setCell ⟨w.heap.size, 3, none⟩ (.string p)).setCell ⟨w.heap.size, 4, none⟩ (.string ⟨#[]⟩) = W2 at *
    rw [hgr] at Y0 ⊢
    have X1 : SR1 w W2 gr g o h p := ⟨X0, Y0, hge⟩
    clear X0 Y0 hge hgr
    have T2 : TabP W2 g sx H := Row.fr hT X1.s.fr (by simp)
    have c9 := X1.s.hd.c9
    have f9 := Row.frozen T2 (o + 9)
    have hgg : g < gr := by have := X1.ge; omega
    have T3 := tab_bump T2 i hi
    rw [hh, ho] at T3
    have r3 := heap_skip W2 g gr (o + 9) (.int .i64 ((h.ctr + 1 : Nat) : Int)) (by omega)
    rw [X1.r] at r3
    have F3 : Fr [g] w (W2.setCell ⟨g, o + 9, none⟩ (.int .i64 ((h.ctr + 1 : Nat) : Int))) := Fr.setCell (X1.s.fr.sub (by simp)) (.inr (by simp)) _
    rw [show ((h.ctr + 1 : Nat) : Int) = (h.ctr : Int) + 1 by omega] at T3 r3 F3
    have hK8 := (T3.hd i hi).c8
    rw [ho] at hK8
    have hKey : (bump H i i).c.key = h.c.key := by unfold bump; rw [if_pos rfl, hh]
    rw [hKey] at hK8
    have hwr := X1.ge
    clear X1 T2
    go_wp2_with fail
    refine (gnew_yes h.c.key HKM.out HKL.out _).mono ?_
    rintro e w4 ⟨gm, gc, rfl, hgm, hgc, M4, b4⟩
    simp at hgm hgc
    have y4 := b4.size
    simp at y4
    have hgrl : gr < W2.heap.size := by
      have := r3
      rcases Nat.lt_or_ge gr W2.heap.size with hlt2 | hge2
      · exact hlt2
      · rw [Array.getElem?_eq_none (by simpa using hge2)] at this; cases this
    have Z4 : S4 w w4 gr gm gc g sx (bump H i) h p := ⟨by rw [b4.block _ (by simpa using hgrl)]; exact r3, M4, Row.keep T3 b4 (Row.lt T3), F3.trans (Fr.of_below [g] b4 (Nat.le_refl _)), hgg, by omega, by omega, hwr⟩
    clear b4 M4 T3 r3 F3 c9 f9 hK8 hKey
    go_wp2_with fail
    refine wp_region_held_drew (S := fun W' => S4 w W' gr gm gc g sx (bump H i) h p) (by kernel_rfl) (S4.drew Z4) (fun hHeld => ?_)
    refine tk 0 ?v35 ?y35 ?r35
    case y35 => (intro W' hW; go_simp; try with_reducible rfl)
    try simp only [bitvec_to_nat]
    refine tk 1 ?v36 ?y36 ?r36
    case y36 => (intro W' hW; go_simp; try with_reducible rfl)
    try simp only [bitvec_to_nat]
    refine tk 2 ?v37 ?y37 ?r37
    case y37 => (intro W' hW; obtain ⟨q0, q1, q2, q3, q4⟩ := cells5 hW.r; go_simp; try with_reducible rfl)
    try simp only [bitvec_to_nat]
    refine tk 3 ?v38 ?y38 ?r38
    case y38 => (intro W' hW; obtain ⟨q0, q1, q2, q3, q4⟩ := cells5 hW.r; go_simp; try with_reducible rfl)
    try simp only [bitvec_to_nat]
    refine tk 4 ?v39 ?y39 ?r39
    case y39 => (intro W' hW; go_simp; try with_reducible rfl)
    try simp only [bitvec_to_nat]
    refine tk 6 ?v40 ?y40 ?r40
    case y40 => (intro W' hW; go_simp; try with_reducible rfl)
    try simp only [bitvec_to_nat]
    refine wpAnyH_ready (rs := [5, 11]) (by kernel_rfl) (by simp) ?_
    refine AllReadyH.cons rfl (fun K hK => ?A234) (AllReadyH.cons rfl (fun K hK => ?B234) AllReadyH.nil)
    case A234 =>
      go_simp
      refine (BND.out _).mono ?_
      rintro e wb ⟨rfl, bb⟩
      have Zb := S4.below hHeld bb
      go_wp2_with fail
      refine hK.out _ _ Zb (fun hHeld => ?_)
      clear hK K
      refine wpAnyH_ready (rs := [7, 11]) (by kernel_rfl) (by simp) ?_
      refine AllReadyH.cons rfl (fun K hK => ?A334) (AllReadyH.cons rfl (fun K hK => ?B334) AllReadyH.nil)
      case A334 =>
        go_simp
        refine (MSL.out _ _ _ hHeld.m).mono ?_
        rintro e wc ⟨rfl, bc⟩
        have Zc := S4.below hHeld bc
        go_wp2_with fail
        refine hK.out _ _ Zc (fun hHeld => ?_)
        clear hK K
        refine tk 8 ?v41 ?y41 ?r41
        case y41 => (intro W' hW; go_simp; try with_reducible rfl)
        try simp only [bitvec_to_nat]
        refine tk 9 ?v42 ?y42 ?r42
        case y42 => (intro W' hW; go_simp; try with_reducible rfl)
        try simp only [bitvec_to_nat]
        refine tk 10 ?v43 ?y43 ?r43
        case y43 => (intro W' hW; go_simp; try with_reducible rfl)
        try simp only [bitvec_to_nat]
        refine wpAnyH_ready (rs := [11]) (by kernel_rfl) (by simp) ?_
        refine AllReadyH.cons rfl (fun K hK => ?_) AllReadyH.nil
        go_simp
        refine hK.out _ _ (S4.alloc hHeld _) (fun hHeld => ?_)
        clear hK K
        refine tk 12 ?v44 ?y44 ?r44
        case y44 => (intro W' hW; go_simp; try with_reducible rfl)
        try simp only [bitvec_to_nat]
        refine wpAnyH_ready (rs := [13]) (by kernel_rfl) (by simp) ?_
        refine AllReadyH.cons rfl (fun K hK => ?_) AllReadyH.nil
        go_simp
        refine hK.out _ _ (S4.alloc Zc _) (fun hHeld => ?_)
        clear hK K
        refine wpAnyH_done (by kernel_rfl) ?_ _
        have ZZ : S4 w (wc.alloc (.cells (arr 16 (by8 (tagF h.c.key (firstF h.c.key (hnonT h)) (headT h.c.alg h.c.id (hnonT h) p ++ m) (maskT h.c.key (firstF h.c.key (hnonT h)) p)))) 145)) gr gm gc g sx (bump H i) h p := S4.alloc Zc _
        have RT : Row (wc.alloc (.cells (arr 16 (by8 (tagF h.c.key (firstF h.c.key (hnonT h)) (headT h.c.alg h.c.id (hnonT h) p ++ m) (maskT h.c.key (firstF h.c.key (hnonT h)) p)))) 145)) (wc.heap.size) 16 145 (by8 (tagF h.c.key (firstF h.c.key (hnonT h)) (headT h.c.alg h.c.id (hnonT h) p ++ m) (maskT h.c.key (firstF h.c.key (hnonT h)) p))) := Row.new _ _ _ _ _ rfl
        generalize wc.alloc (.cells (arr 16 (by8 (tagF h.c.key (firstF h.c.key (hnonT h)) (headT h.c.alg h.c.id (hnonT h) p ++ m) (maskT h.c.key (firstF h.c.key (hnonT h)) p)))) 145) = W6 at *
        generalize wc.heap.size = gt at *
        clear hHeld Z4
        have q6 := heap_pos RT
        go_wp2_with fail
        refine (text_any _ _).mono ?_
        rintro e w7 ⟨rfl, b7⟩
        have Z7 := S4.below ZZ b7
        obtain ⟨e0, e1, e2, e3, e4⟩ := cells5 Z7.r
        have fz := fun j => frozen_of_row _ _ j _ _ Z7.r
        have r8 := rec_set34 (w := w7) (g := gr) (b := .string (maskT h.c.key (firstF h.c.key (hnonT h)) p)) (t := .string (str 16 (tagF h.c.key (firstF h.c.key (hnonT h)) (headT h.c.alg h.c.id (hnonT h) p ++ m) (maskT h.c.key (firstF h.c.key (hnonT h)) p)))) Z7.r
        have T8 := Row.other (Row.other Z7.t (g' := gr) (k := 3) (v := .string (maskT h.c.key (firstF h.c.key (hnonT h)) p)) (by have := Z7.l; omega)) (g' := gr) (k := 4) (v := .string (str 16 (tagF h.c.key (firstF h.c.key (hnonT h)) (headT h.c.alg h.c.id (hnonT h) p ++ m) (maskT h.c.key (firstF h.c.key (hnonT h)) p)))) (by have := Z7.l; omega)
        have F8 := Fr.setCell (a := ⟨gr, 4, none⟩) (Fr.setCell (a := ⟨gr, 3, none⟩) Z7.f (.inl Z7.lr) (.string (maskT h.c.key (firstF h.c.key (hnonT h)) p))) (.inl Z7.lr) (.string (str 16 (tagF h.c.key (firstF h.c.key (hnonT h)) (headT h.c.alg h.c.id (hnonT h) p ++ m) (maskT h.c.key (firstF h.c.key (hnonT h)) p))))
        have HT8 : Hid _ := T8
        have HF8 : Hid _ := F8
        have HR8 : Hid _ := r8
        clear T8 F8 r8 q6 RT ZZ b7 Z7
        go_wp2_with fail
        refine (ENC.out _).mono ?_
        rintro e w9 ⟨rfl, b9⟩
        have T9 := Row.keep HT8.out b9 (Row.lt HT8.out)
        have F9 := HF8.out.trans (Fr.of_below [g] b9 (Nat.le_refl _))
        clear HT8 HF8 HR8 b9 e0 e1 e2 e3 e4 fz
        go_wp2
        go_ret
        exact ⟨rfl, T9, F9⟩
      case B334 =>
        go_simp
        refine hK.out _ _ (S4.alloc hHeld _) (fun hHeld => ?_)
        clear hK K
        refine wpAnyH_ready (rs := [7]) (by kernel_rfl) (by simp) ?_
        refine AllReadyH.cons rfl (fun K hK => ?_) AllReadyH.nil
        go_simp
        refine (MSL.out _ _ _ hHeld.m).mono ?_
        rintro e wc ⟨rfl, bc⟩
        have Zc := S4.below hHeld bc
        go_wp2_with fail
        refine hK.out _ _ Zc (fun hHeld => ?_)
        clear hK K
        refine tk 8 ?v45 ?y45 ?r45
        case y45 => (intro W' hW; go_simp; try with_reducible rfl)
        try simp only [bitvec_to_nat]
        refine tk 9 ?v46 ?y46 ?r46
        case y46 => (intro W' hW; go_simp; try with_reducible rfl)
        try simp only [bitvec_to_nat]
        refine tk 10 ?v47 ?y47 ?r47
        case y47 => (intro W' hW; go_simp; try with_reducible rfl)
        try simp only [bitvec_to_nat]
        refine tk 12 ?v48 ?y48 ?r48
        case y48 => (intro W' hW; go_simp; try with_reducible rfl)
        try simp only [bitvec_to_nat]
        refine wpAnyH_ready (rs := [13]) (by kernel_rfl) (by simp) ?_
        refine AllReadyH.cons rfl (fun K hK => ?_) AllReadyH.nil
        have hzt : Row wc wb.heap.size 16 145 z8 := Row.keep (Row.new wb 16 145 z8 _ rfl) bc (by simp)
        have qz := heap_pos hzt
        go_simp
        refine hK.out _ _ (S4.setRow Zc (by have := Zb.lt; omega) (by have := Zb.m.lt; omega) (by have := Zb.m.lt; omega) (by have := Row.lt Zb.t; omega) (by have := Zb.f.size; omega) _) (fun hHeld => ?_)
        clear hK K
        refine wpAnyH_done (by kernel_rfl) ?_ _
        have ZZ : S4 w (wc.setRow wb.heap.size (arr 16 (by8 (tagF h.c.key (firstF h.c.key (hnonT h)) (headT h.c.alg h.c.id (hnonT h) p ++ m) (maskT h.c.key (firstF h.c.key (hnonT h)) p))))) gr gm gc g sx (bump H i) h p := S4.setRow Zc (by have := Zb.lt; omega) (by have := Zb.m.lt; omega) (by have := Zb.m.lt; omega) (by have := Row.lt Zb.t; omega) (by have := Zb.f.size; omega) _
        have RT : Row (wc.setRow wb.heap.size (arr 16 (by8 (tagF h.c.key (firstF h.c.key (hnonT h)) (headT h.c.alg h.c.id (hnonT h) p ++ m) (maskT h.c.key (firstF h.c.key (hnonT h)) p))))) (wb.heap.size) 16 145 (by8 (tagF h.c.key (firstF h.c.key (hnonT h)) (headT h.c.alg h.c.id (hnonT h) p ++ m) (maskT h.c.key (firstF h.c.key (hnonT h)) p))) := hzt.setRow
        generalize wc.setRow wb.heap.size (arr 16 (by8 (tagF h.c.key (firstF h.c.key (hnonT h)) (headT h.c.alg h.c.id (hnonT h) p ++ m) (maskT h.c.key (firstF h.c.key (hnonT h)) p)))) = W6 at *
        generalize wb.heap.size = gt at *
        clear hHeld Z4
        have q6 := heap_pos RT
        go_wp2_with fail
        refine (text_any _ _).mono ?_
        rintro e w7 ⟨rfl, b7⟩
        have Z7 := S4.below ZZ b7
        obtain ⟨e0, e1, e2, e3, e4⟩ := cells5 Z7.r
        have fz := fun j => frozen_of_row _ _ j _ _ Z7.r
        have r8 := rec_set34 (w := w7) (g := gr) (b := .string (maskT h.c.key (firstF h.c.key (hnonT h)) p)) (t := .string (str 16 (tagF h.c.key (firstF h.c.key (hnonT h)) (headT h.c.alg h.c.id (hnonT h) p ++ m) (maskT h.c.key (firstF h.c.key (hnonT h)) p)))) Z7.r
        have T8 := Row.other (Row.other Z7.t (g' := gr) (k := 3) (v := .string (maskT h.c.key (firstF h.c.key (hnonT h)) p)) (by have := Z7.l; omega)) (g' := gr) (k := 4) (v := .string (str 16 (tagF h.c.key (firstF h.c.key (hnonT h)) (headT h.c.alg h.c.id (hnonT h) p ++ m) (maskT h.c.key (firstF h.c.key (hnonT h)) p)))) (by have := Z7.l; omega)
        have F8 := Fr.setCell (a := ⟨gr, 4, none⟩) (Fr.setCell (a := ⟨gr, 3, none⟩) Z7.f (.inl Z7.lr) (.string (maskT h.c.key (firstF h.c.key (hnonT h)) p))) (.inl Z7.lr) (.string (str 16 (tagF h.c.key (firstF h.c.key (hnonT h)) (headT h.c.alg h.c.id (hnonT h) p ++ m) (maskT h.c.key (firstF h.c.key (hnonT h)) p))))
        have HT8 : Hid _ := T8
        have HF8 : Hid _ := F8
        have HR8 : Hid _ := r8
        clear T8 F8 r8 q6 RT ZZ b7 Z7
        go_wp2_with fail
        refine (ENC.out _).mono ?_
        rintro e w9 ⟨rfl, b9⟩
        have T9 := Row.keep HT8.out b9 (Row.lt HT8.out)
        have F9 := HF8.out.trans (Fr.of_below [g] b9 (Nat.le_refl _))
        clear HT8 HF8 HR8 b9 e0 e1 e2 e3 e4 fz
        go_wp2
        go_ret
        exact ⟨rfl, T9, F9⟩
    case B234 =>
      go_simp
      refine hK.out _ _ (S4.alloc hHeld _) (fun hHeld => ?_)
      clear hK K
      refine wpAnyH_ready (rs := [5]) (by kernel_rfl) (by simp) ?_
      refine AllReadyH.cons rfl (fun K hK => ?_) AllReadyH.nil
      go_simp
      refine (BND.out _).mono ?_
      rintro e wb ⟨rfl, bb⟩
      have Zb := S4.below hHeld bb
      go_wp2_with fail
      refine hK.out _ _ Zb (fun hHeld => ?_)
      clear hK K
      refine wpAnyH_ready (rs := [7]) (by kernel_rfl) (by simp) ?_
      refine AllReadyH.cons rfl (fun K hK => ?_) AllReadyH.nil
      go_simp
      refine (MSL.out _ _ _ hHeld.m).mono ?_
      rintro e wc ⟨rfl, bc⟩
      have Zc := S4.below hHeld bc
      go_wp2_with fail
      refine hK.out _ _ Zc (fun hHeld => ?_)
      clear hK K
      refine tk 8 ?v49 ?y49 ?r49
      case y49 => (intro W' hW; go_simp; try with_reducible rfl)
      try simp only [bitvec_to_nat]
      refine tk 9 ?v50 ?y50 ?r50
      case y50 => (intro W' hW; go_simp; try with_reducible rfl)
      try simp only [bitvec_to_nat]
      refine tk 10 ?v51 ?y51 ?r51
      case y51 => (intro W' hW; go_simp; try with_reducible rfl)
      try simp only [bitvec_to_nat]
      refine tk 12 ?v52 ?y52 ?r52
      case y52 => (intro W' hW; go_simp; try with_reducible rfl)
      try simp only [bitvec_to_nat]
      refine wpAnyH_ready (rs := [13]) (by kernel_rfl) (by simp) ?_
      refine AllReadyH.cons rfl (fun K hK => ?_) AllReadyH.nil
      have hzt : Row wc w4.heap.size 16 145 z8 := Row.keep (Row.keep (Row.new w4.drew 16 145 z8 _ rfl) bb (by simp)) bc (by have := bb.size; simp at this; omega)
      have qz := heap_pos hzt
      go_simp
      refine hK.out _ _ (S4.setRow Zc (by have := Z4.lt; omega) (by have := Z4.m.lt; omega) (by have := Z4.m.lt; omega) (by have := Row.lt Z4.t; omega) (by have := Z4.f.size; omega) _) (fun hHeld => ?_)
      clear hK K
      refine wpAnyH_done (by kernel_rfl) ?_ _
      have ZZ : S4 w (wc.setRow w4.heap.size (arr 16 (by8 (tagF h.c.key (firstF h.c.key (hnonT h)) (headT h.c.alg h.c.id (hnonT h) p ++ m) (maskT h.c.key (firstF h.c.key (hnonT h)) p))))) gr gm gc g sx (bump H i) h p := S4.setRow Zc (by have := Z4.lt; omega) (by have := Z4.m.lt; omega) (by have := Z4.m.lt; omega) (by have := Row.lt Z4.t; omega) (by have := Z4.f.size; omega) _
      have RT : Row (wc.setRow w4.heap.size (arr 16 (by8 (tagF h.c.key (firstF h.c.key (hnonT h)) (headT h.c.alg h.c.id (hnonT h) p ++ m) (maskT h.c.key (firstF h.c.key (hnonT h)) p))))) (w4.heap.size) 16 145 (by8 (tagF h.c.key (firstF h.c.key (hnonT h)) (headT h.c.alg h.c.id (hnonT h) p ++ m) (maskT h.c.key (firstF h.c.key (hnonT h)) p))) := hzt.setRow
      generalize wc.setRow w4.heap.size (arr 16 (by8 (tagF h.c.key (firstF h.c.key (hnonT h)) (headT h.c.alg h.c.id (hnonT h) p ++ m) (maskT h.c.key (firstF h.c.key (hnonT h)) p)))) = W6 at *
      generalize w4.heap.size = gt at *
      clear hHeld Z4
      have q6 := heap_pos RT
      go_wp2_with fail
      refine (text_any _ _).mono ?_
      rintro e w7 ⟨rfl, b7⟩
      have Z7 := S4.below ZZ b7
      obtain ⟨e0, e1, e2, e3, e4⟩ := cells5 Z7.r
      have fz := fun j => frozen_of_row _ _ j _ _ Z7.r
      have r8 := rec_set34 (w := w7) (g := gr) (b := .string (maskT h.c.key (firstF h.c.key (hnonT h)) p)) (t := .string (str 16 (tagF h.c.key (firstF h.c.key (hnonT h)) (headT h.c.alg h.c.id (hnonT h) p ++ m) (maskT h.c.key (firstF h.c.key (hnonT h)) p)))) Z7.r
      have T8 := Row.other (Row.other Z7.t (g' := gr) (k := 3) (v := .string (maskT h.c.key (firstF h.c.key (hnonT h)) p)) (by have := Z7.l; omega)) (g' := gr) (k := 4) (v := .string (str 16 (tagF h.c.key (firstF h.c.key (hnonT h)) (headT h.c.alg h.c.id (hnonT h) p ++ m) (maskT h.c.key (firstF h.c.key (hnonT h)) p)))) (by have := Z7.l; omega)
      have F8 := Fr.setCell (a := ⟨gr, 4, none⟩) (Fr.setCell (a := ⟨gr, 3, none⟩) Z7.f (.inl Z7.lr) (.string (maskT h.c.key (firstF h.c.key (hnonT h)) p))) (.inl Z7.lr) (.string (str 16 (tagF h.c.key (firstF h.c.key (hnonT h)) (headT h.c.alg h.c.id (hnonT h) p ++ m) (maskT h.c.key (firstF h.c.key (hnonT h)) p))))
      have HT8 : Hid _ := T8
      have HF8 : Hid _ := F8
      have HR8 : Hid _ := r8
      clear T8 F8 r8 q6 RT ZZ b7 Z7
      go_wp2_with fail
      refine (ENC.out _).mono ?_
      rintro e w9 ⟨rfl, b9⟩
      have T9 := Row.keep HT8.out b9 (Row.lt HT8.out)
      have F9 := HF8.out.trans (Fr.of_below [g] b9 (Nat.le_refl _))
      clear HT8 HF8 HR8 b9 e0 e1 e2 e3 e4 fz
      go_wp2
      go_ret
      exact ⟨rfl, T9, F9⟩
end Go.Proofs.YtgalgjmhdbncbaaGreat
namespace Go.Proofs.YtgalgjmhdbncbaaGreat
open Go.RowKit
attribute [local go_sem ↓] Go.wp_at_zero Go.wp_at_succ

set_option maxHeartbeats 1000000 in
theorem tooLong_any (m : ByteArray) (w : World) : Calls Tryz.prog 38 #[.string m] w fun e w' => e = .returned (.bool (decide (180 < m.size))) ∧ w' = w := by
  have e : decide (180 < m.size) = decide ((180 : Int) < (m.size : Int)) := by rw [decide_eq_decide]; omega
  rw [e]
  clear e
  go_enter Tryz.func38, Tryz.ntmps38
  go_wp2
  go_ret
  exact ⟨rfl, rfl⟩
def eT : ByteArray := ⟨#[]⟩
def sealP (g : Nat) (S : Sto) (H : Nat → Hd) (id : Int) (m p : ByteArray) (s : ByteArray) (e : Int) (S' : Sto) (H' : Nat → Hd) : Prop :=
  (S.tab ≠ some g ∧ s = ⟨#[]⟩ ∧ e = 10 ∧ S' = S ∧ H' = H) ∨
  (S.tab = some g ∧ ∃ (i : Nat) (c : Int), liveP H id i c ∧ ((c ≠ 0 ∧ s = ⟨#[]⟩ ∧ e = c ∧ S' = S ∧ H' = H) ∨ (c = 0 ∧
    (((180 < m.size ∨ (H i).c.most < p.size) ∧ s = ⟨#[]⟩ ∧ e = 4 ∧ S' = S ∧ H' = H) ∨
     (¬ (180 < m.size ∨ (H i).c.most < p.size) ∧
       (((H i).ctr = (H i).c.seals ∧ s = ⟨#[]⟩ ∧ e = 15 ∧ S' = S ∧ H' = H) ∨
        ((H i).ctr ≠ (H i).c.seals ∧
          (((H i).ctr ≠ (H i).c.res ∧ s = sealR (H i) m p ∧ e = 0 ∧ S' = S ∧ H' = bump H i) ∨
           ((H i).ctr = (H i).c.res ∧ ((S.left = 1 ∧ s = ⟨#[]⟩ ∧ e = 8 ∧ S' = { wroteM S i (cellT (H i).c.reserving) with tab := none } ∧ H' = H) ∨
              (S.left ≠ 1 ∧ s = sealR (H i) m p ∧ e = 0 ∧ S' = wroteM S i (cellT (H i).c.reserving) ∧ H' = bump (upd H i (H i).c.reserving) i)))))))))))
theorem sealR_upd (H : Nat → Hd) (i : Nat) (m p : ByteArray) : sealR (upd H i (H i).c.reserving i) m p = sealR (H i) m p := by
  unfold upd
  rw [if_pos rfl]
  rfl
set_option maxRecDepth 100000 in
set_option maxHeartbeats 8000000 in
theorem tseal_any (g sx : Nat) (H : Nat → Hd) (S : Sto) (id : Int) (m p : ByteArray) (hH : TOk H) (hct : ∀ i, i < 8 → (H i).c.st ≠ 0 → (H i).ctr ≤ 1000000) (hl : S.left ≤ 9223372036854775807) (w : World) (h : TabP w g sx H) (hs : StoP w sx S) (ht : TabIn w S) :
    Calls Tryz.prog 19 #[ptr g, .int .i64 id, .string m, .string p] w fun e w' => ∃ (s : ByteArray) (r : Int) (S' : Sto) (H' : Nat → Hd), e = .returned (.tuple #[.string s, .int .i64 r]) ∧ sealP g S H id m p s r S' H' ∧ StoP w' sx S' ∧ TabP w' g sx H' ∧ Fr [g, sx] w w' := by
  have ho := fun w h hs ht => over_any g sx H S w h hs ht
  have hv := fun w h => live_any g sx H id w h
  have hp := fun i c hi hc w h hs => putt_any g sx H S i c hi hc hl w h hs
  have hr := fun c h1 h2 w => reserving_any c h1 h2 w
  unfold ptr at ho hv hp ⊢
  have HO : Hid _ := ho
  have HV : Hid _ := hv
  have HP : Hid _ := hp
  have HR : Hid _ := hr
  have HT : Hid _ := ht
  have HTO : Hid _ := hH
  have HCT : Hid _ := hct
  clear ho hv hp hr ht hH hct
  by_cases hov : S.tab = some g
  · rw [decide_eq_false (by simpa using hov)] at HO
    go_enter Tryz.func19, Tryz.ntmps19
    go_wp2_with fail
    refine (HO.out _ h hs HT.out).mono ?_
    rintro e w1 ⟨rfl, hw⟩
    rw [hw]
    go_wp2_with fail
    refine (HV.out _ h).mono ?_
    rintro e w2 ⟨⟨i, c, hL, rfl⟩, b2⟩
    have F2 : Fr [g, sx] w w2 := Fr.of_below _ b2 (Nat.le_refl _)
    have T2 : TabP w2 g sx H := Row.keep h b2 (Row.lt h)
    have S2 : StoP w2 sx S := Row.keep hs b2 (Row.lt hs)
    clear b2
    by_cases hc0 : c = 0
    · subst hc0
      have HL : Hid (liveP H id i 0) := hL
      have hi8 : i < 8 ∧ hit H id i ∧ (H i).c.st ≠ 2 := by
        rcases hL with ⟨a, b, c, _⟩ | ⟨_, _, h⟩ | ⟨_, _, h⟩
        · exact ⟨a, b, c⟩
        · simp at h
        · simp at h
      obtain ⟨hi, ⟨hst, hid⟩, hn2⟩ := hi8
      have hck := HTO.out i hi hst
      have hst1 : (H i).c.st = 1 := by rcases hck.st with a | a; exact a; exact absurd a hn2
      have hct := HCT.out i hi hst
      have hcf := hck.cfg
      obtain ⟨⟨u1, u2⟩, ⟨u3, u4⟩, ⟨u5, u6⟩⟩ := hcf
      have hmost : (H i).c.most ≤ 200 := by omega
      have hres := hck.res
      have HCK : Hid _ := hck
      have HST : Hid _ := hst1
      have HOV : Hid _ := hov
      clear hL hck hst hid hn2 hst1 hov u1 u2 u3 u4 u5 u6
      by_cases hmz : 180 < m.size
      · go_wp2_with fail
        refine (tooLong_any m _).mono ?_
        rintro e w3 ⟨rfl, hw3⟩
        rw [hw3, decide_eq_true hmz]
        go_wp2
        go_ret2
        exact ⟨_, 4, S, H, rfl, .inr ⟨HOV.out, i, 0, HL.out, .inr ⟨rfl, .inl ⟨.inl hmz, rfl, rfl, rfl, rfl⟩⟩⟩, S2, T2, F2⟩
      · go_wp2_with fail
        refine (tooLong_any m _).mono ?_
        rintro e w3 ⟨rfl, hw3⟩
        rw [hw3, decide_eq_false hmz]
        have d6 := (T2.hd i hi).c6
        by_cases hpz : (H i).c.most < p.size
        · have hpz2 : ((H i).c.most : Int) < (p.size : Int) := by omega
          go_wp2
          go_ret2
          exact ⟨_, 4, S, H, rfl, .inr ⟨HOV.out, i, 0, HL.out, .inr ⟨rfl, .inl ⟨.inr hpz, rfl, rfl, rfl, rfl⟩⟩⟩, S2, T2, F2⟩
        · have hpz2 : ¬ (((H i).c.most : Int) < (p.size : Int)) := by omega
          have HNL : Hid (¬ (180 < m.size ∨ (H i).c.most < p.size)) := by rintro (a | a) <;> omega
          have hp200 : p.size ≤ 200 := by omega
          have hm180 : m.size ≤ 180 := by omega
          have hsp := fun W ha => spent_any g (1 + i * 10) (H i) W ha
          have hsh := fun W ha => short_any g (1 + i * 10) (H i) W ha
          have hse := fun H' W (hc : ClOk (H' i).c) hst hct hT => hseal_any g sx H' i m p hi hc hst hct hm180 hp200 W hT
          have HSP : Hid _ := hsp
          have HSH : Hid _ := hsh
          have HSE : Hid _ := hse
          clear hsp hsh hse hmz hpz
          go_wp2_with fail
          refine (HSP.out _ (T2.hd i hi)).mono ?_
          rintro e w4 ⟨rfl, b4⟩
          have F4 := F2.trans (Fr.of_below [g, sx] b4 (Nat.le_refl _))
          have T4 : TabP w4 g sx H := Row.keep T2 b4 (Row.lt T2)
          have S4 : StoP w4 sx S := Row.keep S2 b4 (Row.lt S2)
          clear b4 F2 d6
          by_cases hsp : (H i).ctr = (H i).c.seals
          · rw [decide_eq_true hsp]
            go_wp2
            go_ret2
            exact ⟨_, 15, S, H, rfl, .inr ⟨HOV.out, i, 0, HL.out, .inr ⟨rfl, .inr ⟨HNL.out, .inl ⟨hsp, rfl, rfl, rfl, rfl⟩⟩⟩⟩, S4, T4, F4⟩
          · rw [decide_eq_false hsp]
            go_wp2_with fail
            refine (HSH.out _ (T4.hd i hi)).mono ?_
            rintro e w5 ⟨rfl, b5⟩
            have F5 := F4.trans (Fr.of_below [g, sx] b5 (Nat.le_refl _))
            have T5 : TabP w5 g sx H := Row.keep T4 b5 (Row.lt T4)
            have S5 : StoP w5 sx S := Row.keep S4 b5 (Row.lt S4)
            have HNS : Hid _ := hsp
            clear b5 F4 hsp T2 S2
            by_cases hsh : (H i).ctr = (H i).c.res
            · rw [decide_eq_true hsh]
              obtain ⟨d0, d1, d2, d3, d4, d5, d6, d7, d8, d9⟩ := T5.hd i hi
              have hr2 := HR.out (H i).c (by have := HCK.out.cfg.1.2; omega) (by have := HCK.out.cfg.2.1.2; omega)
              unfold clA clC at hr2
              have HR2 : Hid _ := hr2
              have HSHR : Hid _ := hsh
              clear hr2 HR hsh
              go_wp2_with fail
              refine (HR2.out _).mono ?_
              rintro e w6 ⟨rfl, b6⟩
              have F6 := F5.trans (Fr.of_below [g, sx] b6 (Nat.le_refl _))
              have T6 : TabP w6 g sx H := Row.keep T5 b6 (Row.lt T5)
              have S6 : StoP w6 sx S := Row.keep S5 b6 (Row.lt S5)
              have hp2 := HP.out i (H i).c.reserving hi (ClOk.reserve HCK.out) w6 T6 S6
              unfold clA clC at hp2
              have HP2 : Hid _ := hp2
              clear hp2 HP HR2 b6 F5 d0 d1 d2 d3 d4 d5 d6 d7 d8 d9
              go_wp2_with fail
              refine Calls.mono HP2.out ?_
              rintro e w7 ⟨r, S', H', rfl, hP, S7, T7, F7⟩
              have F8 := F6.trans F7
              clear F6 F7 HP2
              rcases hP with ⟨hl1, rfl, hS', hH'⟩ | ⟨hl1, rfl, hS', hH'⟩
              · have HX : Hid _ := And.intro hS' hH'
                clear hS' hH'
                go_wp2
                go_ret2
                exact ⟨_, 8, S', H', rfl, .inr ⟨HOV.out, i, 0, HL.out, .inr ⟨rfl, .inr ⟨HNL.out, .inr ⟨HNS.out, .inr ⟨HSHR.out, .inl ⟨hl1, rfl, rfl, HX.out.1, HX.out.2⟩⟩⟩⟩⟩⟩, S7, T7, F8⟩
              · subst hH'
                have hs8 := HSE.out (upd H i (H i).c.reserving) w7 (by unfold upd; rw [if_pos rfl]; exact ClOk.reserve HCK.out) (by unfold upd; rw [if_pos rfl]; exact HST.out) (by unfold upd; rw [if_pos rfl]; exact hct) T7
                rw [sealR_upd] at hs8
                have HS8 : Hid _ := hs8
                have HX : Hid _ := hS'
                clear hs8 HSE hS'
                go_wp2_with fail
                refine Calls.mono HS8.out ?_
                rintro e w8 ⟨rfl, T8, F9⟩
                have hne : sx ≠ g := fun e => Row.ne T7 S7 (by decide) e.symm
                have S8 : StoP w8 sx S' := Row.fr S7 F9 (by simp; exact hne)
                have F10 := F8.trans (F9.sub (L' := [g, sx]) (by simp))
                clear HS8
                go_wp2
                go_ret2
                exact ⟨_, 0, S', _, rfl, .inr ⟨HOV.out, i, 0, HL.out, .inr ⟨rfl, .inr ⟨HNL.out, .inr ⟨HNS.out, .inr ⟨HSHR.out, .inr ⟨hl1, rfl, rfl, HX.out, rfl⟩⟩⟩⟩⟩⟩, S8, T8, F10⟩
            · rw [decide_eq_false hsh]
              have hs8 := HSE.out H w5 HCK.out HST.out hct T5
              have HS8 : Hid _ := hs8
              have HNR : Hid _ := hsh
              clear hs8 HSE hsh
              go_wp2_with fail
              refine Calls.mono HS8.out ?_
              rintro e w8 ⟨rfl, T8, F9⟩
              have hne : sx ≠ g := fun e => Row.ne T5 S5 (by decide) e.symm
              have S8 : StoP w8 sx S := Row.fr S5 F9 (by simp; exact hne)
              have F10 := F5.trans (F9.sub (L' := [g, sx]) (by simp))
              clear HS8
              go_wp2
              go_ret2
              exact ⟨_, 0, S, _, rfl, .inr ⟨HOV.out, i, 0, HL.out, .inr ⟨rfl, .inr ⟨HNL.out, .inr ⟨HNS.out, .inl ⟨HNR.out, rfl, rfl, rfl, rfl⟩⟩⟩⟩⟩, S8, T8, F10⟩
    · have ec : (c == 0) = false := by rw [beq_eq_false_iff_ne]; exact hc0
      have HL : Hid (liveP H id i c) := hL
      clear hL
      go_wp2
      go_ret2
      exact ⟨_, c, S, H, rfl, .inr ⟨hov, i, c, HL.out, .inl ⟨hc0, rfl, rfl, rfl, rfl⟩⟩, S2, T2, F2⟩
  · rw [decide_eq_true (by simpa using hov)] at HO
    go_enter Tryz.func19, Tryz.ntmps19
    go_wp2_with fail
    refine (HO.out _ h hs HT.out).mono ?_
    rintro e w1 ⟨rfl, hw⟩
    rw [hw]
    go_wp2
    go_ret2
    exact ⟨_, 10, S, H, rfl, .inl ⟨hov, rfl, rfl, rfl, rfl⟩, hs, h, Fr.refl _ _⟩
end Go.Proofs.YtgalgjmhdbncbaaGreat
