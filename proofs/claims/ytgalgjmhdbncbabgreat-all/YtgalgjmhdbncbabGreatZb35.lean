import Derived.Test.YtgalgjmhdbncbabGreatZb00
import Derived.Test.YtgalgjmhdbncbabGreatZb34
import Derived.Test.YtgalgjmhdbncbabGreatZb19
import Derived.Test.YtgalgjmhdbncbabGreatZb31
namespace Go.Proofs.YtgalgjmhdbncbabGreat
open Go.RowKit
attribute [local go_sem ↓] Go.wp_at_zero Go.wp_at_succ

structure SHd (w W : World) (g o : Nat) (h : Hd) : Prop where
  hd : HdAt W g o h
  fr : Fr [] w W
  lt : g < W.heap.size
theorem SHd.drew {w W : World} {g o : Nat} {h : Hd} (s : SHd w W g o h) : SHd w W.drew g o h := ⟨s.hd.drew, s.fr.drew, s.lt⟩
theorem SHd.alloc {w W : World} {g o : Nat} {h : Hd} (s : SHd w W g o h) (x : Obj) : SHd w (W.alloc x) g o h := ⟨s.hd.block (Below.heap_alloc _ _ _ s.lt), s.fr.alloc x, by have := s.lt; simp; omega⟩
theorem SHd.below {w W W' : World} {g o : Nat} {h : Hd} (s : SHd w W g o h) (hb : Below W.heap.size W W') : SHd w W' g o h := ⟨s.hd.block (hb.block g s.lt), s.fr.trans (Fr.of_below [] hb (Nat.le_refl _)), Nat.lt_of_lt_of_le s.lt hb.size⟩
theorem SHd.cs {w W : World} {g o : Nat} {h : Hd} (s : SHd w W g o h) : W.cell? ⟨g, o + 1, none⟩ = some (.int .i64 h.c.alg) ∧ W.cell? ⟨g, o + 2, none⟩ = some (.int .i64 h.c.id) := ⟨s.hd.c1, s.hd.c2⟩
theorem SHd.set {w W : World} {g o gr j : Nat} {h : Hd} (s : SHd w W g o h) (hr : w.heap.size ≤ gr) (hn : g ≠ gr) (v : Value) : SHd w (W.setCell ⟨gr, j, none⟩ v) g o h := ⟨s.hd.block (heap_skip _ _ _ _ _ hn), Fr.setCell s.fr (.inl hr) v, by have := s.lt; simp; omega⟩
theorem SHd.set5 {w W : World} {g o gr : Nat} {h : Hd} (s : SHd w W g o h) (hr : w.heap.size ≤ gr) (hn : g ≠ gr) (v0 v1 v2 v3 v4 : Value) : SHd w (((((W.setCell ⟨gr, 0, none⟩ v0).setCell ⟨gr, 1, none⟩ v1).setCell ⟨gr, 2, none⟩ v2).setCell ⟨gr, 3, none⟩ v3).setCell ⟨gr, 4, none⟩ v4) g o h :=
  ((((s.set hr hn v0).set hr hn v1).set hr hn v2).set hr hn v3).set hr hn v4
def bump (H : Nat → Hd) (i : Nat) (j : Nat) : Hd := if j = i then ⟨(H i).c, (H i).ctr + 1⟩ else H j
theorem tab_bump {w : World} {g sx : Nat} {H : Nat → Hd} (h : TabP w g sx H) (i : Nat) (hi : i < 8) : TabP (w.setCell ⟨g, 1 + i * 10 + 9, none⟩ (.int .i64 (((H i).ctr + 1 : Nat) : Int))) g sx (bump H i) := by
  refine Row.congr (Row.set h _ _) (fun j hj => ?_)
  unfold tabF bump
  by_cases h0 : j = 0
  · subst h0
    rw [if_neg (by omega)]
    simp
  · obtain ⟨q, r, hr, rfl⟩ : ∃ q r, r < 10 ∧ j = 1 + q * 10 + r := ⟨(j - 1) / 10, (j - 1) % 10, by omega, by omega⟩
    rw [if_neg h0, show (1 + q * 10 + r - 1) / 10 = q by omega, show (1 + q * 10 + r - 1) % 10 = r by omega]
    by_cases hq : q = i
    · subst hq
      rw [if_pos rfl]
      by_cases h9 : r = 9
      · subst h9; rw [if_pos rfl]; rfl
      · rw [if_neg (by omega), if_neg h0]; simp [hdF, h9]
    · rw [if_neg hq, if_neg (by omega), if_neg h0]
theorem rec_set34 {w : World} {g : Nat} {v0 v1 v2 v3 v4 b t : Value} (h : w.heap[g]? = some (.cells #[v0, v1, v2, v3, v4] 35 (0, 0))) : ((w.setCell ⟨g, 3, none⟩ b).setCell ⟨g, 4, none⟩ t).heap[g]? = some (.cells #[v0, v1, v2, b, t] 35 (0, 0)) := by
  have h1 := heap_setCell_same w g 3 _ 35 b h
  have h2 := heap_setCell_same _ g 4 _ 35 t h1
  simpa using h2
structure S4 (w W : World) (gr gm gc g sx : Nat) (H' : Nat → Hd) (h : Hd) (p : ByteArray) : Prop where
  r : W.heap[gr]? = some (.cells #[.int .i64 h.c.alg, .int .i64 h.c.id, .string (hnonT h), .string p, .string ⟨#[]⟩] 35 (0, 0))
  m : Mod W gm gc h.c.key
  t : TabP W g sx H'
  f : Fr [g] w W
  l : g < gr
  l1 : g < gm
  l2 : g < gc
  lr : w.heap.size ≤ gr
theorem S4.lt {w W : World} {gr gm gc g sx : Nat} {H' : Nat → Hd} {h : Hd} {p : ByteArray} (s : S4 w W gr gm gc g sx H' h p) : gr < W.heap.size := by
  rcases Nat.lt_or_ge gr W.heap.size with hlt | hge
  · exact hlt
  · have := s.r; rw [Array.getElem?_eq_none hge] at this; cases this
theorem S4.drew {w W : World} {gr gm gc g sx : Nat} {H' : Nat → Hd} {h : Hd} {p : ByteArray} (s : S4 w W gr gm gc g sx H' h p) : S4 w W.drew gr gm gc g sx H' h p := ⟨s.r, s.m.drew, s.t.drew, s.f.drew, s.l, s.l1, s.l2, s.lr⟩
theorem S4.alloc {w W : World} {gr gm gc g sx : Nat} {H' : Nat → Hd} {h : Hd} {p : ByteArray} (s : S4 w W gr gm gc g sx H' h p) (x : Obj) : S4 w (W.alloc x) gr gm gc g sx H' h p := ⟨heap_of_old _ _ _ _ s.lt s.r, s.m.alloc x, Row.alloc s.t x, s.f.alloc x, s.l, s.l1, s.l2, s.lr⟩
theorem S4.below {w W W' : World} {gr gm gc g sx : Nat} {H' : Nat → Hd} {h : Hd} {p : ByteArray} (s : S4 w W gr gm gc g sx H' h p) (hb : Below W.heap.size W W') : S4 w W' gr gm gc g sx H' h p := ⟨by rw [hb.block _ s.lt]; exact s.r, s.m.keep hb, Row.keep s.t hb (Row.lt s.t), s.f.trans (Fr.of_below [g] hb (Nat.le_refl _)), s.l, s.l1, s.l2, s.lr⟩
theorem S4.setRow {w W : World} {gr gm gc g sx gt : Nat} {H' : Nat → Hd} {h : Hd} {p : ByteArray} (s : S4 w W gr gm gc g sx H' h p) (h1 : gt ≠ gr) (h2 : gt ≠ gm) (h3 : gt ≠ gc) (h4 : gt ≠ g) (h5 : w.heap.size ≤ gt) (cs : Array Value) : S4 w (W.setRow gt cs) gr gm gc g sx H' h p :=
  ⟨by rw [setRow_other _ _ _ _ (Ne.symm h1)]; exact s.r, ⟨Row.setRow_other s.m.r (Ne.symm h2), Row.setRow_other s.m.c (Ne.symm h3)⟩, Row.setRow_other s.t (Ne.symm h4), ⟨s.f.os, s.f.tape, s.f.output, by simpa using s.f.size, fun k hk hn => by rw [setRow_other _ _ _ _ (by omega)]; exact s.f.block k hk hn⟩, s.l, s.l1, s.l2, s.lr⟩
attribute [local go_sem ↓] ldw40 stw40 al40
attribute [local go_sem] run_ldT40 ldN_row run_stT40 stN_row stN_z run_al40
attribute [local go_sem] blk_new blk_at blk_old blk_drew blk_setCell blk_setRow alloc_setRow
def sealR (h : Hd) (m p : ByteArray) : ByteArray := encT h.c.alg h.c.id (hnonT h) (maskT h.c.key (firstF h.c.key (hnonT h)) p) (str 16 (tagF h.c.key (firstF h.c.key (hnonT h)) (headT h.c.alg h.c.id (hnonT h) p ++ m) (maskT h.c.key (firstF h.c.key (hnonT h)) p)))
structure SR1 (w W : World) (gr g o : Nat) (h : Hd) (p : ByteArray) : Prop where
  s : SHd w W g o h
  r : W.heap[gr]? = some (.cells #[.int .i64 h.c.alg, .int .i64 h.c.id, .string (hnonT h), .string p, .string ⟨#[]⟩] 35 (0, 0))
  ge : w.heap.size ≤ gr
set_option maxRecDepth 100000 in
set_option maxHeartbeats 8000000 in
theorem hseal_any (g sx : Nat) (H : Nat → Hd) (i : Nat) (m p : ByteArray) (hi : i < 8) (hc : ClOk (H i).c) (hs : (H i).c.st = 1) (hct : (H i).ctr ≤ 1000000) (hm : m.size ≤ 180) (hp : p.size ≤ 200) (w : World) (hT : TabP w g sx H) :
    Calls Tryz.prog 70 #[.pointer (some ⟨g, 1 + i * 10, none⟩), .string m, .string p] w fun e w' => e = .returned (.string (sealR (H i) m p)) ∧ TabP w' g sx (bump H i) ∧ Fr [g] w w' := by
  obtain ⟨h, hh⟩ : ∃ h, H i = h := ⟨_, rfl⟩
  obtain ⟨o, ho⟩ : ∃ o, 1 + i * 10 = o := ⟨_, rfl⟩
  have hA := hT.hd i hi
  rw [hh] at hc hs hct hA
  rw [ho] at hA ⊢
  rw [hh]
  have hlt := Row.lt hT
  have hnon := fun W hg ha => nonce_any g o h hct hc.fix W hg ha
  have NON : Hid _ := hnon
  have hkey := hc.key
  rw [hs, if_pos rfl] at hkey
  have halg := hc.alg
  have hnz : (hnonT h).size = 12 := by unfold hnonT; rw [ByteArray.size_append, hc.fix, numT_size]
  have hmx : h.c.key.size ≤ maxLen := by unfold maxLen; omega
  have hkl : KeyLen h.c.key.size := by unfold KeyLen; omega
  have hbnd := fun W => bound_any h.c.alg h.c.id (hnonT h) p ⟨#[]⟩ m halg.1 halg.2 hc.id hnz hp (by decide) (by omega) W
  unfold recV at hbnd
  have hmz : (headT h.c.alg h.c.id (hnonT h) p ++ m).size ≤ 200 := by unfold headT; rw [ByteArray.size_append, str_size]; omega
  have hmsl := fun gm gc W hM => mseal_any gm gc h.c.key (hnonT h) (headT h.c.alg h.c.id (hnonT h) p ++ m) p hkl (by omega) hmz hp W hM
  have henc := fun W => rencode_yes h.c.alg h.c.id (hnonT h) (maskT h.c.key (firstF h.c.key (hnonT h)) p) (str 16 (tagF h.c.key (firstF h.c.key (hnonT h)) (headT h.c.alg h.c.id (hnonT h) p ++ m) (maskT h.c.key (firstF h.c.key (hnonT h)) p))) halg.1 halg.2 hc.id hnz (by rw [maskT_size]; exact hp) (str_size _ _) W
  unfold recV at henc
  have ENC : Hid _ := henc
  unfold sealR
  clear henc
  have HKM : Hid _ := hmx
  have HKL : Hid _ := hkl
  have BND : Hid _ := hbnd
  have MSL : Hid _ := hmsl
  have HNZ : Hid _ := hnz
  clear hnon hkey hnz hmx hkl hbnd hmz hmsl
  have S0 : SHd w w g o h := ⟨hA, Fr.refl _ _, hlt⟩
  clear hA
  go_enter Tryz.func70, Tryz.ntmps70
  go_wp2_with fail
  refine wp_region_held_drew (S := fun W' => SHd w W' g o h) (by kernel_rfl) (SHd.drew S0) (fun hHeld => ?_)
  refine tp 0 _ ?r1
  refine nz ?_
  refine tp 1 _ ?r2
  refine nz ?_
  refine tp 2 _ ?r3
  refine nz ?_
  refine tp 3 _ ?r4
  refine nz ?_
  refine tk 4 ?v5 ?y5 ?r5
  case y5 => (intro W' hW; obtain ⟨d1, d2⟩ := hW.cs; go_simp; try with_reducible rfl)
  refine nz ?_
  refine tp 5 _ ?r6
  refine nz ?_
  refine tp 6 _ ?r7
  refine nz ?_
  refine tp 7 _ ?r8
  refine nz ?_
  refine tp 8 _ ?r9
  refine nz ?_
  refine tk 9 ?v10 ?y10 ?r10
  case y10 => (intro W' hW; obtain ⟨d1, d2⟩ := hW.cs; go_simp; try with_reducible rfl)
  refine nz ?_
  refine tp 10 _ ?r11
  refine nz ?_
  refine tp 12 _ ?r12
  refine nz ?_
  refine wpAnyH_ready (rs := [11, 14]) (by kernel_rfl) (by simp) ?_
  refine AllReadyH.cons rfl (fun K hK => ?A1) (AllReadyH.cons rfl (fun K hK => ?B1) AllReadyH.nil)
  case A1 =>
    go_simp
    refine (NON.out _ hHeld.lt hHeld.hd).mono ?_
    rintro e wa ⟨rfl, ba⟩
    have Sa := SHd.below hHeld ba
    go_wp2_with fail
    refine hK.out _ _ Sa (fun hHeld => ?_)
    clear hK K
    refine tp 13 _ ?r13
    refine nz ?_
    refine wpAnyH_ready (rs := [14]) (by kernel_rfl) (by simp) ?_
    refine AllReadyH.cons rfl (fun K hK => ?_) AllReadyH.nil
    go_simp
    refine hK.out _ _ (SHd.alloc hHeld _) (fun hHeld => ?_)
    clear hK K
    refine wpAnyH_ready (rs := [15]) (by kernel_rfl) (by simp) ?_
    refine AllReadyH.cons rfl (fun K hK => ?_) AllReadyH.nil
    go_simp
    refine hK.out _ _ (SHd.alloc Sa _) (fun hHeld => ?_)
    clear hK K
    refine wpAnyH_done (by kernel_rfl) ?_ _
    have X1 : SR1 w (wa.alloc (.cells #[.int .i64 h.c.alg, .int .i64 h.c.id, .string (hnonT h), .string p, .string ⟨#[]⟩] 35)) wa.heap.size g o h p := ⟨SHd.alloc Sa _, heap_of_new _ _ _ rfl, Sa.fr.size⟩
    clear hHeld Sa ba S0
    generalize wa.alloc (.cells #[.int .i64 h.c.alg, .int .i64 h.c.id, .string (hnonT h), .string p, .string ⟨#[]⟩] 35) = W2 at *
    generalize wa.heap.size = gr at *
    have T2 : TabP W2 g sx H := Row.fr hT X1.s.fr (by simp)
    have c9 := X1.s.hd.c9
    have f9 := Row.frozen T2 (o + 9)
    have hgg : g < gr := by have := X1.ge; omega
    have T3 := tab_bump T2 i hi
    rw [hh, ho] at T3
    have r3 := heap_skip W2 g gr (o + 9) (.int .i64 ((h.ctr + 1 : Nat) : Int)) (by omega)
    rw [X1.r] at r3
    have F3 : Fr [g] w (W2.setCell ⟨g, o + 9, none⟩ (.int .i64 ((h.ctr + 1 : Nat) : Int))) := Fr.setCell (X1.s.fr.sub (by simp)) (.inr (by simp)) _
    rw [show ((h.ctr + 1 : Nat) : Int) = (h.ctr : Int) + 1 by omega] at T3 r3 F3
    have hK8 := (T3.hd i hi).c8
    rw [ho] at hK8
    have hKey : (bump H i i).c.key = h.c.key := by unfold bump; rw [if_pos rfl, hh]
    rw [hKey] at hK8
    have hwr := X1.ge
    clear X1 T2
    go_wp2_with fail
    refine (gnew_yes h.c.key HKM.out HKL.out _).mono ?_
    rintro e w4 ⟨gm, gc, rfl, hgm, hgc, M4, b4⟩
    simp at hgm hgc
    have y4 := b4.size
    simp at y4
    have hgrl : gr < W2.heap.size := by
      have := r3
      rcases Nat.lt_or_ge gr W2.heap.size with hlt2 | hge2
      · exact hlt2
      · rw [Array.getElem?_eq_none (by simpa using hge2)] at this; cases this
    have Z4 : S4 w w4 gr gm gc g sx (bump H i) h p := ⟨by rw [b4.block _ (by simpa using hgrl)]; exact r3, M4, Row.keep T3 b4 (Row.lt T3), F3.trans (Fr.of_below [g] b4 (Nat.le_refl _)), hgg, by omega, by omega, hwr⟩
    clear b4 M4 T3 r3 F3 c9 f9 hK8 hKey
    go_wp2_with fail
    refine wp_region_held_drew (S := fun W' => S4 w W' gr gm gc g sx (bump H i) h p) (by kernel_rfl) (S4.drew Z4) (fun hHeld => ?_)
    refine tp 0 _ ?r16
    refine nz ?_
    refine tp 1 _ ?r17
    refine nz ?_
    refine tk 2 ?v18 ?y18 ?r18
    case y18 => (intro W' hW; obtain ⟨q0, q1, q2, q3, q4⟩ := cells5 hW.r; go_simp; try with_reducible rfl)
    refine nz ?_
    refine tk 3 ?v19 ?y19 ?r19
    case y19 => (intro W' hW; obtain ⟨q0, q1, q2, q3, q4⟩ := cells5 hW.r; go_simp; try with_reducible rfl)
    refine nz ?_
    refine tp 4 _ ?r20
    refine nz ?_
    refine tp 6 _ ?r21
    refine nz ?_
    refine wpAnyH_ready (rs := [5, 11]) (by kernel_rfl) (by simp) ?_
    refine AllReadyH.cons rfl (fun K hK => ?A215) (AllReadyH.cons rfl (fun K hK => ?B215) AllReadyH.nil)
    case A215 =>
      go_simp
      refine (BND.out _).mono ?_
      rintro e wb ⟨rfl, bb⟩
      have Zb := S4.below hHeld bb
      go_wp2_with fail
      refine hK.out _ _ Zb (fun hHeld => ?_)
      clear hK K
      refine wpAnyH_ready (rs := [7, 11]) (by kernel_rfl) (by simp) ?_
      refine AllReadyH.cons rfl (fun K hK => ?A315) (AllReadyH.cons rfl (fun K hK => ?B315) AllReadyH.nil)
      case A315 =>
        go_simp
        refine (MSL.out _ _ _ hHeld.m).mono ?_
        rintro e wc ⟨rfl, bc⟩
        have Zc := S4.below hHeld bc
        go_wp2_with fail
        refine hK.out _ _ Zc (fun hHeld => ?_)
        clear hK K
        refine tp 8 _ ?r22
        refine nz ?_
        refine tp 9 _ ?r23
        refine nz ?_
        refine tp 10 _ ?r24
        refine nz ?_
        refine wpAnyH_ready (rs := [11]) (by kernel_rfl) (by simp) ?_
        refine AllReadyH.cons rfl (fun K hK => ?_) AllReadyH.nil
        go_simp
        refine hK.out _ _ (S4.alloc hHeld _) (fun hHeld => ?_)
        clear hK K
        refine tp 12 _ ?r25
        refine nz ?_
        refine wpAnyH_ready (rs := [13]) (by kernel_rfl) (by simp) ?_
        refine AllReadyH.cons rfl (fun K hK => ?_) AllReadyH.nil
        go_simp
        refine hK.out _ _ (S4.alloc Zc _) (fun hHeld => ?_)
        clear hK K
        refine wpAnyH_done (by kernel_rfl) ?_ _
        have ZZ : S4 w (wc.alloc (.cells (arr 16 (by8 (tagF h.c.key (firstF h.c.key (hnonT h)) (headT h.c.alg h.c.id (hnonT h) p ++ m) (maskT h.c.key (firstF h.c.key (hnonT h)) p)))) 141)) gr gm gc g sx (bump H i) h p := S4.alloc Zc _
        have RT : Row (wc.alloc (.cells (arr 16 (by8 (tagF h.c.key (firstF h.c.key (hnonT h)) (headT h.c.alg h.c.id (hnonT h) p ++ m) (maskT h.c.key (firstF h.c.key (hnonT h)) p)))) 141)) (wc.heap.size) 16 141 (by8 (tagF h.c.key (firstF h.c.key (hnonT h)) (headT h.c.alg h.c.id (hnonT h) p ++ m) (maskT h.c.key (firstF h.c.key (hnonT h)) p))) := Row.new _ _ _ _ _ rfl
        generalize wc.alloc (.cells (arr 16 (by8 (tagF h.c.key (firstF h.c.key (hnonT h)) (headT h.c.alg h.c.id (hnonT h) p ++ m) (maskT h.c.key (firstF h.c.key (hnonT h)) p)))) 141) = W6 at *
        generalize wc.heap.size = gt at *
        clear hHeld Z4
        have q6 := heap_pos RT
        go_wp2_with fail
        refine (text_any _ _).mono ?_
        rintro e w7 ⟨rfl, b7⟩
        have Z7 := S4.below ZZ b7
        obtain ⟨e0, e1, e2, e3, e4⟩ := cells5 Z7.r
        have fz := fun j => frozen_of_row _ _ j _ _ Z7.r
        have r8 := rec_set34 (w := w7) (g := gr) (b := .string (maskT h.c.key (firstF h.c.key (hnonT h)) p)) (t := .string (str 16 (tagF h.c.key (firstF h.c.key (hnonT h)) (headT h.c.alg h.c.id (hnonT h) p ++ m) (maskT h.c.key (firstF h.c.key (hnonT h)) p)))) Z7.r
        have T8 := Row.other (Row.other Z7.t (g' := gr) (k := 3) (v := .string (maskT h.c.key (firstF h.c.key (hnonT h)) p)) (by have := Z7.l; omega)) (g' := gr) (k := 4) (v := .string (str 16 (tagF h.c.key (firstF h.c.key (hnonT h)) (headT h.c.alg h.c.id (hnonT h) p ++ m) (maskT h.c.key (firstF h.c.key (hnonT h)) p)))) (by have := Z7.l; omega)
        have F8 := Fr.setCell (a := ⟨gr, 4, none⟩) (Fr.setCell (a := ⟨gr, 3, none⟩) Z7.f (.inl Z7.lr) (.string (maskT h.c.key (firstF h.c.key (hnonT h)) p))) (.inl Z7.lr) (.string (str 16 (tagF h.c.key (firstF h.c.key (hnonT h)) (headT h.c.alg h.c.id (hnonT h) p ++ m) (maskT h.c.key (firstF h.c.key (hnonT h)) p))))
        have HT8 : Hid _ := T8
        have HF8 : Hid _ := F8
        have HR8 : Hid _ := r8
        clear T8 F8 r8 q6 RT ZZ b7 Z7
        go_wp2_with fail
        refine (ENC.out _).mono ?_
        rintro e w9 ⟨rfl, b9⟩
        have T9 := Row.keep HT8.out b9 (Row.lt HT8.out)
        have F9 := HF8.out.trans (Fr.of_below [g] b9 (Nat.le_refl _))
        clear HT8 HF8 HR8 b9 e0 e1 e2 e3 e4 fz
        go_wp2
        go_ret
        exact ⟨rfl, T9, F9⟩
      case B315 =>
        go_simp
        refine hK.out _ _ (S4.alloc hHeld _) (fun hHeld => ?_)
        clear hK K
        refine wpAnyH_ready (rs := [7]) (by kernel_rfl) (by simp) ?_
        refine AllReadyH.cons rfl (fun K hK => ?_) AllReadyH.nil
        go_simp
        refine (MSL.out _ _ _ hHeld.m).mono ?_
        rintro e wc ⟨rfl, bc⟩
        have Zc := S4.below hHeld bc
        go_wp2_with fail
        refine hK.out _ _ Zc (fun hHeld => ?_)
        clear hK K
        refine tp 8 _ ?r26
        refine nz ?_
        refine tp 9 _ ?r27
        refine nz ?_
        refine tp 10 _ ?r28
        refine nz ?_
        refine tp 12 _ ?r29
        refine nz ?_
        refine wpAnyH_ready (rs := [13]) (by kernel_rfl) (by simp) ?_
        refine AllReadyH.cons rfl (fun K hK => ?_) AllReadyH.nil
        have hzt : Row wc wb.heap.size 16 141 z8 := Row.keep (Row.new wb 16 141 z8 _ rfl) bc (by simp)
        have qz := heap_pos hzt
        go_simp
        refine hK.out _ _ (S4.setRow Zc (by have := Zb.lt; omega) (by have := Zb.m.lt; omega) (by have := Zb.m.lt; omega) (by have := Row.lt Zb.t; omega) (by have := Zb.f.size; omega) _) (fun hHeld => ?_)
        clear hK K
        refine wpAnyH_done (by kernel_rfl) ?_ _
        have ZZ : S4 w (wc.setRow wb.heap.size (arr 16 (by8 (tagF h.c.key (firstF h.c.key (hnonT h)) (headT h.c.alg h.c.id (hnonT h) p ++ m) (maskT h.c.key (firstF h.c.key (hnonT h)) p))))) gr gm gc g sx (bump H i) h p := S4.setRow Zc (by have := Zb.lt; omega) (by have := Zb.m.lt; omega) (by have := Zb.m.lt; omega) (by have := Row.lt Zb.t; omega) (by have := Zb.f.size; omega) _
        have RT : Row (wc.setRow wb.heap.size (arr 16 (by8 (tagF h.c.key (firstF h.c.key (hnonT h)) (headT h.c.alg h.c.id (hnonT h) p ++ m) (maskT h.c.key (firstF h.c.key (hnonT h)) p))))) (wb.heap.size) 16 141 (by8 (tagF h.c.key (firstF h.c.key (hnonT h)) (headT h.c.alg h.c.id (hnonT h) p ++ m) (maskT h.c.key (firstF h.c.key (hnonT h)) p))) := hzt.setRow
        generalize wc.setRow wb.heap.size (arr 16 (by8 (tagF h.c.key (firstF h.c.key (hnonT h)) (headT h.c.alg h.c.id (hnonT h) p ++ m) (maskT h.c.key (firstF h.c.key (hnonT h)) p)))) = W6 at *
        generalize wb.heap.size = gt at *
        clear hHeld Z4
        have q6 := heap_pos RT
        go_wp2_with fail
        refine (text_any _ _).mono ?_
        rintro e w7 ⟨rfl, b7⟩
        have Z7 := S4.below ZZ b7
        obtain ⟨e0, e1, e2, e3, e4⟩ := cells5 Z7.r
        have fz := fun j => frozen_of_row _ _ j _ _ Z7.r
        have r8 := rec_set34 (w := w7) (g := gr) (b := .string (maskT h.c.key (firstF h.c.key (hnonT h)) p)) (t := .string (str 16 (tagF h.c.key (firstF h.c.key (hnonT h)) (headT h.c.alg h.c.id (hnonT h) p ++ m) (maskT h.c.key (firstF h.c.key (hnonT h)) p)))) Z7.r
        have T8 := Row.other (Row.other Z7.t (g' := gr) (k := 3) (v := .string (maskT h.c.key (firstF h.c.key (hnonT h)) p)) (by have := Z7.l; omega)) (g' := gr) (k := 4) (v := .string (str 16 (tagF h.c.key (firstF h.c.key (hnonT h)) (headT h.c.alg h.c.id (hnonT h) p ++ m) (maskT h.c.key (firstF h.c.key (hnonT h)) p)))) (by have := Z7.l; omega)
        have F8 := Fr.setCell (a := ⟨gr, 4, none⟩) (Fr.setCell (a := ⟨gr, 3, none⟩) Z7.f (.inl Z7.lr) (.string (maskT h.c.key (firstF h.c.key (hnonT h)) p))) (.inl Z7.lr) (.string (str 16 (tagF h.c.key (firstF h.c.key (hnonT h)) (headT h.c.alg h.c.id (hnonT h) p ++ m) (maskT h.c.key (firstF h.c.key (hnonT h)) p))))
        have HT8 : Hid _ := T8
        have HF8 : Hid _ := F8
        have HR8 : Hid _ := r8
        clear T8 F8 r8 q6 RT ZZ b7 Z7
        go_wp2_with fail
        refine (ENC.out _).mono ?_
        rintro e w9 ⟨rfl, b9⟩
        have T9 := Row.keep HT8.out b9 (Row.lt HT8.out)
        have F9 := HF8.out.trans (Fr.of_below [g] b9 (Nat.le_refl _))
        clear HT8 HF8 HR8 b9 e0 e1 e2 e3 e4 fz
        go_wp2
        go_ret
        exact ⟨rfl, T9, F9⟩
    case B215 =>
      go_simp
      refine hK.out _ _ (S4.alloc hHeld _) (fun hHeld => ?_)
      clear hK K
      refine wpAnyH_ready (rs := [5]) (by kernel_rfl) (by simp) ?_
      refine AllReadyH.cons rfl (fun K hK => ?_) AllReadyH.nil
      go_simp
      refine (BND.out _).mono ?_
      rintro e wb ⟨rfl, bb⟩
      have Zb := S4.below hHeld bb
      go_wp2_with fail
      refine hK.out _ _ Zb (fun hHeld => ?_)
      clear hK K
      refine wpAnyH_ready (rs := [7]) (by kernel_rfl) (by simp) ?_
      refine AllReadyH.cons rfl (fun K hK => ?_) AllReadyH.nil
      go_simp
      refine (MSL.out _ _ _ hHeld.m).mono ?_
      rintro e wc ⟨rfl, bc⟩
      have Zc := S4.below hHeld bc
      go_wp2_with fail
      refine hK.out _ _ Zc (fun hHeld => ?_)
      clear hK K
      refine tp 8 _ ?r30
      refine nz ?_
      refine tp 9 _ ?r31
      refine nz ?_
      refine tp 10 _ ?r32
      refine nz ?_
      refine tp 12 _ ?r33
      refine nz ?_
      refine wpAnyH_ready (rs := [13]) (by kernel_rfl) (by simp) ?_
      refine AllReadyH.cons rfl (fun K hK => ?_) AllReadyH.nil
      have hzt : Row wc w4.heap.size 16 141 z8 := Row.keep (Row.keep (Row.new w4.drew 16 141 z8 _ rfl) bb (by simp)) bc (by have := bb.size; simp at this; omega)
      have qz := heap_pos hzt
      go_simp
      refine hK.out _ _ (S4.setRow Zc (by have := Z4.lt; omega) (by have := Z4.m.lt; omega) (by have := Z4.m.lt; omega) (by have := Row.lt Z4.t; omega) (by have := Z4.f.size; omega) _) (fun hHeld => ?_)
      clear hK K
      refine wpAnyH_done (by kernel_rfl) ?_ _
      have ZZ : S4 w (wc.setRow w4.heap.size (arr 16 (by8 (tagF h.c.key (firstF h.c.key (hnonT h)) (headT h.c.alg h.c.id (hnonT h) p ++ m) (maskT h.c.key (firstF h.c.key (hnonT h)) p))))) gr gm gc g sx (bump H i) h p := S4.setRow Zc (by have := Z4.lt; omega) (by have := Z4.m.lt; omega) (by have := Z4.m.lt; omega) (by have := Row.lt Z4.t; omega) (by have := Z4.f.size; omega) _
      have RT : Row (wc.setRow w4.heap.size (arr 16 (by8 (tagF h.c.key (firstF h.c.key (hnonT h)) (headT h.c.alg h.c.id (hnonT h) p ++ m) (maskT h.c.key (firstF h.c.key (hnonT h)) p))))) (w4.heap.size) 16 141 (by8 (tagF h.c.key (firstF h.c.key (hnonT h)) (headT h.c.alg h.c.id (hnonT h) p ++ m) (maskT h.c.key (firstF h.c.key (hnonT h)) p))) := hzt.setRow
      generalize wc.setRow w4.heap.size (arr 16 (by8 (tagF h.c.key (firstF h.c.key (hnonT h)) (headT h.c.alg h.c.id (hnonT h) p ++ m) (maskT h.c.key (firstF h.c.key (hnonT h)) p)))) = W6 at *
      generalize w4.heap.size = gt at *
      clear hHeld Z4
      have q6 := heap_pos RT
      go_wp2_with fail
      refine (text_any _ _).mono ?_
      rintro e w7 ⟨rfl, b7⟩
      have Z7 := S4.below ZZ b7
      obtain ⟨e0, e1, e2, e3, e4⟩ := cells5 Z7.r
      have fz := fun j => frozen_of_row _ _ j _ _ Z7.r
      have r8 := rec_set34 (w := w7) (g := gr) (b := .string (maskT h.c.key (firstF h.c.key (hnonT h)) p)) (t := .string (str 16 (tagF h.c.key (firstF h.c.key (hnonT h)) (headT h.c.alg h.c.id (hnonT h) p ++ m) (maskT h.c.key (firstF h.c.key (hnonT h)) p)))) Z7.r
      have T8 := Row.other (Row.other Z7.t (g' := gr) (k := 3) (v := .string (maskT h.c.key (firstF h.c.key (hnonT h)) p)) (by have := Z7.l; omega)) (g' := gr) (k := 4) (v := .string (str 16 (tagF h.c.key (firstF h.c.key (hnonT h)) (headT h.c.alg h.c.id (hnonT h) p ++ m) (maskT h.c.key (firstF h.c.key (hnonT h)) p)))) (by have := Z7.l; omega)
      have F8 := Fr.setCell (a := ⟨gr, 4, none⟩) (Fr.setCell (a := ⟨gr, 3, none⟩) Z7.f (.inl Z7.lr) (.string (maskT h.c.key (firstF h.c.key (hnonT h)) p))) (.inl Z7.lr) (.string (str 16 (tagF h.c.key (firstF h.c.key (hnonT h)) (headT h.c.alg h.c.id (hnonT h) p ++ m) (maskT h.c.key (firstF h.c.key (hnonT h)) p))))
      have HT8 : Hid _ := T8
      have HF8 : Hid _ := F8
      have HR8 : Hid _ := r8
      clear T8 F8 r8 q6 RT ZZ b7 Z7
      go_wp2_with fail
      refine (ENC.out _).mono ?_
      rintro e w9 ⟨rfl, b9⟩
      have T9 := Row.keep HT8.out b9 (Row.lt HT8.out)
      have F9 := HF8.out.trans (Fr.of_below [g] b9 (Nat.le_refl _))
      clear HT8 HF8 HR8 b9 e0 e1 e2 e3 e4 fz
      go_wp2
      go_ret
      exact ⟨rfl, T9, F9⟩
  case B1 =>
    go_simp
    refine hK.out _ _ (SHd.alloc hHeld _) (fun hHeld => ?_)
    clear hK K
    refine wpAnyH_ready (rs := [11]) (by kernel_rfl) (by simp) ?_
    refine AllReadyH.cons rfl (fun K hK => ?_) AllReadyH.nil
    go_simp
    refine (NON.out _ hHeld.lt hHeld.hd).mono ?_
    rintro e wa ⟨rfl, ba⟩
    have Sa := SHd.below hHeld ba
    go_wp2_with fail
    refine hK.out _ _ Sa (fun hHeld => ?_)
    clear hK K
    refine tp 13 _ ?r14
    refine nz ?_
    refine wpAnyH_ready (rs := [15]) (by kernel_rfl) (by simp) ?_
    refine AllReadyH.cons rfl (fun K hK => ?_) AllReadyH.nil
    have hzr : wa.heap[w.heap.size]? = some (.cells zrec 35 (0, 0)) := by rw [ba.block _ (by simp)]; exact heap_of_new w _ _ rfl
    obtain ⟨z0, z1, z2, z3, z4⟩ := zero_cells hzr
    have f0 := fun j => frozen_of_row _ _ j _ _ hzr
    go_simp
    refine hK.out _ _ (SHd.set5 Sa (Nat.le_refl _) (by omega) _ _ _ _ _) (fun hHeld => ?_)
    clear hK K
    refine wpAnyH_done (by kernel_rfl) ?_ _
    obtain ⟨gr, hgr⟩ : ∃ gr, w.heap.size = gr := ⟨_, rfl⟩
    have hge : w.heap.size ≤ gr := by omega
    have X0 := SHd.set5 Sa (gr := w.heap.size) (Nat.le_refl _) (by omega) (.int .i64 h.c.alg) (.int .i64 h.c.id) (.string (hnonT h)) (.string p) (.string ⟨#[]⟩)
    have Y0 := heap_five (.int .i64 h.c.alg) (.int .i64 h.c.id) (.string (hnonT h)) (.string p) (.string ⟨#[]⟩) hzr
    clear hHeld Sa ba S0 z0 z1 z2 z3 z4 f0 hzr
    generalize ((((wa.setCell ⟨w.heap.size, 0, none⟩ (.int .i64 h.c.alg)).setCell ⟨w.heap.size, 1, none⟩ (.int .i64 h.c.id)).setCell ⟨w.heap.size, 2, none⟩ (.string (hnonT h))).setCell ⟨w.heap.size, 3, none⟩ (.string p)).setCell ⟨w.heap.size, 4, none⟩ (.string ⟨#[]⟩) = W2 at *
    rw [hgr] at Y0 ⊢
    have X1 : SR1 w W2 gr g o h p := ⟨X0, Y0, hge⟩
    clear X0 Y0 hge hgr
    have T2 : TabP W2 g sx H := Row.fr hT X1.s.fr (by simp)
    have c9 := X1.s.hd.c9
    have f9 := Row.frozen T2 (o + 9)
    have hgg : g < gr := by have := X1.ge; omega
    have T3 := tab_bump T2 i hi
    rw [hh, ho] at T3
    have r3 := heap_skip W2 g gr (o + 9) (.int .i64 ((h.ctr + 1 : Nat) : Int)) (by omega)
    rw [X1.r] at r3
    have F3 : Fr [g] w (W2.setCell ⟨g, o + 9, none⟩ (.int .i64 ((h.ctr + 1 : Nat) : Int))) := Fr.setCell (X1.s.fr.sub (by simp)) (.inr (by simp)) _
    rw [show ((h.ctr + 1 : Nat) : Int) = (h.ctr : Int) + 1 by omega] at T3 r3 F3
    have hK8 := (T3.hd i hi).c8
    rw [ho] at hK8
    have hKey : (bump H i i).c.key = h.c.key := by unfold bump; rw [if_pos rfl, hh]
    rw [hKey] at hK8
    have hwr := X1.ge
    clear X1 T2
    go_wp2_with fail
    refine (gnew_yes h.c.key HKM.out HKL.out _).mono ?_
    rintro e w4 ⟨gm, gc, rfl, hgm, hgc, M4, b4⟩
    simp at hgm hgc
    have y4 := b4.size
    simp at y4
    have hgrl : gr < W2.heap.size := by
      have := r3
      rcases Nat.lt_or_ge gr W2.heap.size with hlt2 | hge2
      · exact hlt2
      · rw [Array.getElem?_eq_none (by simpa using hge2)] at this; cases this
    have Z4 : S4 w w4 gr gm gc g sx (bump H i) h p := ⟨by rw [b4.block _ (by simpa using hgrl)]; exact r3, M4, Row.keep T3 b4 (Row.lt T3), F3.trans (Fr.of_below [g] b4 (Nat.le_refl _)), hgg, by omega, by omega, hwr⟩
    clear b4 M4 T3 r3 F3 c9 f9 hK8 hKey
    go_wp2_with fail
    refine wp_region_held_drew (S := fun W' => S4 w W' gr gm gc g sx (bump H i) h p) (by kernel_rfl) (S4.drew Z4) (fun hHeld => ?_)
    refine tp 0 _ ?r35
    refine nz ?_
    refine tp 1 _ ?r36
    refine nz ?_
    refine tk 2 ?v37 ?y37 ?r37
    case y37 => (intro W' hW; obtain ⟨q0, q1, q2, q3, q4⟩ := cells5 hW.r; go_simp; try with_reducible rfl)
    refine nz ?_
    refine tk 3 ?v38 ?y38 ?r38
    case y38 => (intro W' hW; obtain ⟨q0, q1, q2, q3, q4⟩ := cells5 hW.r; go_simp; try with_reducible rfl)
    refine nz ?_
    refine tp 4 _ ?r39
    refine nz ?_
    refine tp 6 _ ?r40
    refine nz ?_
    refine wpAnyH_ready (rs := [5, 11]) (by kernel_rfl) (by simp) ?_
    refine AllReadyH.cons rfl (fun K hK => ?A234) (AllReadyH.cons rfl (fun K hK => ?B234) AllReadyH.nil)
    case A234 =>
      go_simp
      refine (BND.out _).mono ?_
      rintro e wb ⟨rfl, bb⟩
      have Zb := S4.below hHeld bb
      go_wp2_with fail
      refine hK.out _ _ Zb (fun hHeld => ?_)
      clear hK K
      refine wpAnyH_ready (rs := [7, 11]) (by kernel_rfl) (by simp) ?_
      refine AllReadyH.cons rfl (fun K hK => ?A334) (AllReadyH.cons rfl (fun K hK => ?B334) AllReadyH.nil)
      case A334 =>
        go_simp
        refine (MSL.out _ _ _ hHeld.m).mono ?_
        rintro e wc ⟨rfl, bc⟩
        have Zc := S4.below hHeld bc
        go_wp2_with fail
        refine hK.out _ _ Zc (fun hHeld => ?_)
        clear hK K
        refine tp 8 _ ?r41
        refine nz ?_
        refine tp 9 _ ?r42
        refine nz ?_
        refine tp 10 _ ?r43
        refine nz ?_
        refine wpAnyH_ready (rs := [11]) (by kernel_rfl) (by simp) ?_
        refine AllReadyH.cons rfl (fun K hK => ?_) AllReadyH.nil
        go_simp
        refine hK.out _ _ (S4.alloc hHeld _) (fun hHeld => ?_)
        clear hK K
        refine tp 12 _ ?r44
        refine nz ?_
        refine wpAnyH_ready (rs := [13]) (by kernel_rfl) (by simp) ?_
        refine AllReadyH.cons rfl (fun K hK => ?_) AllReadyH.nil
        go_simp
        refine hK.out _ _ (S4.alloc Zc _) (fun hHeld => ?_)
        clear hK K
        refine wpAnyH_done (by kernel_rfl) ?_ _
        have ZZ : S4 w (wc.alloc (.cells (arr 16 (by8 (tagF h.c.key (firstF h.c.key (hnonT h)) (headT h.c.alg h.c.id (hnonT h) p ++ m) (maskT h.c.key (firstF h.c.key (hnonT h)) p)))) 141)) gr gm gc g sx (bump H i) h p := S4.alloc Zc _
        have RT : Row (wc.alloc (.cells (arr 16 (by8 (tagF h.c.key (firstF h.c.key (hnonT h)) (headT h.c.alg h.c.id (hnonT h) p ++ m) (maskT h.c.key (firstF h.c.key (hnonT h)) p)))) 141)) (wc.heap.size) 16 141 (by8 (tagF h.c.key (firstF h.c.key (hnonT h)) (headT h.c.alg h.c.id (hnonT h) p ++ m) (maskT h.c.key (firstF h.c.key (hnonT h)) p))) := Row.new _ _ _ _ _ rfl
        generalize wc.alloc (.cells (arr 16 (by8 (tagF h.c.key (firstF h.c.key (hnonT h)) (headT h.c.alg h.c.id (hnonT h) p ++ m) (maskT h.c.key (firstF h.c.key (hnonT h)) p)))) 141) = W6 at *
        generalize wc.heap.size = gt at *
        clear hHeld Z4
        have q6 := heap_pos RT
        go_wp2_with fail
        refine (text_any _ _).mono ?_
        rintro e w7 ⟨rfl, b7⟩
        have Z7 := S4.below ZZ b7
        obtain ⟨e0, e1, e2, e3, e4⟩ := cells5 Z7.r
        have fz := fun j => frozen_of_row _ _ j _ _ Z7.r
        have r8 := rec_set34 (w := w7) (g := gr) (b := .string (maskT h.c.key (firstF h.c.key (hnonT h)) p)) (t := .string (str 16 (tagF h.c.key (firstF h.c.key (hnonT h)) (headT h.c.alg h.c.id (hnonT h) p ++ m) (maskT h.c.key (firstF h.c.key (hnonT h)) p)))) Z7.r
        have T8 := Row.other (Row.other Z7.t (g' := gr) (k := 3) (v := .string (maskT h.c.key (firstF h.c.key (hnonT h)) p)) (by have := Z7.l; omega)) (g' := gr) (k := 4) (v := .string (str 16 (tagF h.c.key (firstF h.c.key (hnonT h)) (headT h.c.alg h.c.id (hnonT h) p ++ m) (maskT h.c.key (firstF h.c.key (hnonT h)) p)))) (by have := Z7.l; omega)
        have F8 := Fr.setCell (a := ⟨gr, 4, none⟩) (Fr.setCell (a := ⟨gr, 3, none⟩) Z7.f (.inl Z7.lr) (.string (maskT h.c.key (firstF h.c.key (hnonT h)) p))) (.inl Z7.lr) (.string (str 16 (tagF h.c.key (firstF h.c.key (hnonT h)) (headT h.c.alg h.c.id (hnonT h) p ++ m) (maskT h.c.key (firstF h.c.key (hnonT h)) p))))
        have HT8 : Hid _ := T8
        have HF8 : Hid _ := F8
        have HR8 : Hid _ := r8
        clear T8 F8 r8 q6 RT ZZ b7 Z7
        go_wp2_with fail
        refine (ENC.out _).mono ?_
        rintro e w9 ⟨rfl, b9⟩
        have T9 := Row.keep HT8.out b9 (Row.lt HT8.out)
        have F9 := HF8.out.trans (Fr.of_below [g] b9 (Nat.le_refl _))
        clear HT8 HF8 HR8 b9 e0 e1 e2 e3 e4 fz
        go_wp2
        go_ret
        exact ⟨rfl, T9, F9⟩
      case B334 =>
        go_simp
        refine hK.out _ _ (S4.alloc hHeld _) (fun hHeld => ?_)
        clear hK K
        refine wpAnyH_ready (rs := [7]) (by kernel_rfl) (by simp) ?_
        refine AllReadyH.cons rfl (fun K hK => ?_) AllReadyH.nil
        go_simp
        refine (MSL.out _ _ _ hHeld.m).mono ?_
        rintro e wc ⟨rfl, bc⟩
        have Zc := S4.below hHeld bc
        go_wp2_with fail
        refine hK.out _ _ Zc (fun hHeld => ?_)
        clear hK K
        refine tp 8 _ ?r45
        refine nz ?_
        refine tp 9 _ ?r46
        refine nz ?_
        refine tp 10 _ ?r47
        refine nz ?_
        refine tp 12 _ ?r48
        refine nz ?_
        refine wpAnyH_ready (rs := [13]) (by kernel_rfl) (by simp) ?_
        refine AllReadyH.cons rfl (fun K hK => ?_) AllReadyH.nil
        have hzt : Row wc wb.heap.size 16 141 z8 := Row.keep (Row.new wb 16 141 z8 _ rfl) bc (by simp)
        have qz := heap_pos hzt
        go_simp
        refine hK.out _ _ (S4.setRow Zc (by have := Zb.lt; omega) (by have := Zb.m.lt; omega) (by have := Zb.m.lt; omega) (by have := Row.lt Zb.t; omega) (by have := Zb.f.size; omega) _) (fun hHeld => ?_)
        clear hK K
        refine wpAnyH_done (by kernel_rfl) ?_ _
        have ZZ : S4 w (wc.setRow wb.heap.size (arr 16 (by8 (tagF h.c.key (firstF h.c.key (hnonT h)) (headT h.c.alg h.c.id (hnonT h) p ++ m) (maskT h.c.key (firstF h.c.key (hnonT h)) p))))) gr gm gc g sx (bump H i) h p := S4.setRow Zc (by have := Zb.lt; omega) (by have := Zb.m.lt; omega) (by have := Zb.m.lt; omega) (by have := Row.lt Zb.t; omega) (by have := Zb.f.size; omega) _
        have RT : Row (wc.setRow wb.heap.size (arr 16 (by8 (tagF h.c.key (firstF h.c.key (hnonT h)) (headT h.c.alg h.c.id (hnonT h) p ++ m) (maskT h.c.key (firstF h.c.key (hnonT h)) p))))) (wb.heap.size) 16 141 (by8 (tagF h.c.key (firstF h.c.key (hnonT h)) (headT h.c.alg h.c.id (hnonT h) p ++ m) (maskT h.c.key (firstF h.c.key (hnonT h)) p))) := hzt.setRow
        generalize wc.setRow wb.heap.size (arr 16 (by8 (tagF h.c.key (firstF h.c.key (hnonT h)) (headT h.c.alg h.c.id (hnonT h) p ++ m) (maskT h.c.key (firstF h.c.key (hnonT h)) p)))) = W6 at *
        generalize wb.heap.size = gt at *
        clear hHeld Z4
        have q6 := heap_pos RT
        go_wp2_with fail
        refine (text_any _ _).mono ?_
        rintro e w7 ⟨rfl, b7⟩
        have Z7 := S4.below ZZ b7
        obtain ⟨e0, e1, e2, e3, e4⟩ := cells5 Z7.r
        have fz := fun j => frozen_of_row _ _ j _ _ Z7.r
        have r8 := rec_set34 (w := w7) (g := gr) (b := .string (maskT h.c.key (firstF h.c.key (hnonT h)) p)) (t := .string (str 16 (tagF h.c.key (firstF h.c.key (hnonT h)) (headT h.c.alg h.c.id (hnonT h) p ++ m) (maskT h.c.key (firstF h.c.key (hnonT h)) p)))) Z7.r
        have T8 := Row.other (Row.other Z7.t (g' := gr) (k := 3) (v := .string (maskT h.c.key (firstF h.c.key (hnonT h)) p)) (by have := Z7.l; omega)) (g' := gr) (k := 4) (v := .string (str 16 (tagF h.c.key (firstF h.c.key (hnonT h)) (headT h.c.alg h.c.id (hnonT h) p ++ m) (maskT h.c.key (firstF h.c.key (hnonT h)) p)))) (by have := Z7.l; omega)
        have F8 := Fr.setCell (a := ⟨gr, 4, none⟩) (Fr.setCell (a := ⟨gr, 3, none⟩) Z7.f (.inl Z7.lr) (.string (maskT h.c.key (firstF h.c.key (hnonT h)) p))) (.inl Z7.lr) (.string (str 16 (tagF h.c.key (firstF h.c.key (hnonT h)) (headT h.c.alg h.c.id (hnonT h) p ++ m) (maskT h.c.key (firstF h.c.key (hnonT h)) p))))
        have HT8 : Hid _ := T8
        have HF8 : Hid _ := F8
        have HR8 : Hid _ := r8
        clear T8 F8 r8 q6 RT ZZ b7 Z7
        go_wp2_with fail
        refine (ENC.out _).mono ?_
        rintro e w9 ⟨rfl, b9⟩
        have T9 := Row.keep HT8.out b9 (Row.lt HT8.out)
        have F9 := HF8.out.trans (Fr.of_below [g] b9 (Nat.le_refl _))
        clear HT8 HF8 HR8 b9 e0 e1 e2 e3 e4 fz
        go_wp2
        go_ret
        exact ⟨rfl, T9, F9⟩
    case B234 =>
      go_simp
      refine hK.out _ _ (S4.alloc hHeld _) (fun hHeld => ?_)
      clear hK K
      refine wpAnyH_ready (rs := [5]) (by kernel_rfl) (by simp) ?_
      refine AllReadyH.cons rfl (fun K hK => ?_) AllReadyH.nil
      go_simp
      refine (BND.out _).mono ?_
      rintro e wb ⟨rfl, bb⟩
      have Zb := S4.below hHeld bb
      go_wp2_with fail
      refine hK.out _ _ Zb (fun hHeld => ?_)
      clear hK K
      refine wpAnyH_ready (rs := [7]) (by kernel_rfl) (by simp) ?_
      refine AllReadyH.cons rfl (fun K hK => ?_) AllReadyH.nil
      go_simp
      refine (MSL.out _ _ _ hHeld.m).mono ?_
      rintro e wc ⟨rfl, bc⟩
      have Zc := S4.below hHeld bc
      go_wp2_with fail
      refine hK.out _ _ Zc (fun hHeld => ?_)
      clear hK K
      refine tp 8 _ ?r49
      refine nz ?_
      refine tp 9 _ ?r50
      refine nz ?_
      refine tp 10 _ ?r51
      refine nz ?_
      refine tp 12 _ ?r52
      refine nz ?_
      refine wpAnyH_ready (rs := [13]) (by kernel_rfl) (by simp) ?_
      refine AllReadyH.cons rfl (fun K hK => ?_) AllReadyH.nil
      have hzt : Row wc w4.heap.size 16 141 z8 := Row.keep (Row.keep (Row.new w4.drew 16 141 z8 _ rfl) bb (by simp)) bc (by have := bb.size; simp at this; omega)
      have qz := heap_pos hzt
      go_simp
      refine hK.out _ _ (S4.setRow Zc (by have := Z4.lt; omega) (by have := Z4.m.lt; omega) (by have := Z4.m.lt; omega) (by have := Row.lt Z4.t; omega) (by have := Z4.f.size; omega) _) (fun hHeld => ?_)
      clear hK K
      refine wpAnyH_done (by kernel_rfl) ?_ _
      have ZZ : S4 w (wc.setRow w4.heap.size (arr 16 (by8 (tagF h.c.key (firstF h.c.key (hnonT h)) (headT h.c.alg h.c.id (hnonT h) p ++ m) (maskT h.c.key (firstF h.c.key (hnonT h)) p))))) gr gm gc g sx (bump H i) h p := S4.setRow Zc (by have := Z4.lt; omega) (by have := Z4.m.lt; omega) (by have := Z4.m.lt; omega) (by have := Row.lt Z4.t; omega) (by have := Z4.f.size; omega) _
      have RT : Row (wc.setRow w4.heap.size (arr 16 (by8 (tagF h.c.key (firstF h.c.key (hnonT h)) (headT h.c.alg h.c.id (hnonT h) p ++ m) (maskT h.c.key (firstF h.c.key (hnonT h)) p))))) (w4.heap.size) 16 141 (by8 (tagF h.c.key (firstF h.c.key (hnonT h)) (headT h.c.alg h.c.id (hnonT h) p ++ m) (maskT h.c.key (firstF h.c.key (hnonT h)) p))) := hzt.setRow
      generalize wc.setRow w4.heap.size (arr 16 (by8 (tagF h.c.key (firstF h.c.key (hnonT h)) (headT h.c.alg h.c.id (hnonT h) p ++ m) (maskT h.c.key (firstF h.c.key (hnonT h)) p)))) = W6 at *
      generalize w4.heap.size = gt at *
      clear hHeld Z4
      have q6 := heap_pos RT
      go_wp2_with fail
      refine (text_any _ _).mono ?_
      rintro e w7 ⟨rfl, b7⟩
      have Z7 := S4.below ZZ b7
      obtain ⟨e0, e1, e2, e3, e4⟩ := cells5 Z7.r
      have fz := fun j => frozen_of_row _ _ j _ _ Z7.r
      have r8 := rec_set34 (w := w7) (g := gr) (b := .string (maskT h.c.key (firstF h.c.key (hnonT h)) p)) (t := .string (str 16 (tagF h.c.key (firstF h.c.key (hnonT h)) (headT h.c.alg h.c.id (hnonT h) p ++ m) (maskT h.c.key (firstF h.c.key (hnonT h)) p)))) Z7.r
      have T8 := Row.other (Row.other Z7.t (g' := gr) (k := 3) (v := .string (maskT h.c.key (firstF h.c.key (hnonT h)) p)) (by have := Z7.l; omega)) (g' := gr) (k := 4) (v := .string (str 16 (tagF h.c.key (firstF h.c.key (hnonT h)) (headT h.c.alg h.c.id (hnonT h) p ++ m) (maskT h.c.key (firstF h.c.key (hnonT h)) p)))) (by have := Z7.l; omega)
      have F8 := Fr.setCell (a := ⟨gr, 4, none⟩) (Fr.setCell (a := ⟨gr, 3, none⟩) Z7.f (.inl Z7.lr) (.string (maskT h.c.key (firstF h.c.key (hnonT h)) p))) (.inl Z7.lr) (.string (str 16 (tagF h.c.key (firstF h.c.key (hnonT h)) (headT h.c.alg h.c.id (hnonT h) p ++ m) (maskT h.c.key (firstF h.c.key (hnonT h)) p))))
      have HT8 : Hid _ := T8
      have HF8 : Hid _ := F8
      have HR8 : Hid _ := r8
      clear T8 F8 r8 q6 RT ZZ b7 Z7
      go_wp2_with fail
      refine (ENC.out _).mono ?_
      rintro e w9 ⟨rfl, b9⟩
      have T9 := Row.keep HT8.out b9 (Row.lt HT8.out)
      have F9 := HF8.out.trans (Fr.of_below [g] b9 (Nat.le_refl _))
      clear HT8 HF8 HR8 b9 e0 e1 e2 e3 e4 fz
      go_wp2
      go_ret
      exact ⟨rfl, T9, F9⟩
end Go.Proofs.YtgalgjmhdbncbabGreat
