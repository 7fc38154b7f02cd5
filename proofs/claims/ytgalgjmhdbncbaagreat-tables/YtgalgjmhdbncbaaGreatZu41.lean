import Derived.Test.YtgalgjmhdbncbaaGreatZu00
import Derived.Test.YtgalgjmhdbncbaaGreatZu40
namespace Go.Proofs.YtgalgjmhdbncbaaGreat
open Go.RowKit
attribute [local go_sem ↓] Go.wp_at_zero Go.wp_at_succ

structure RPost (w w' : World) (B g gs gc num : Nat) (sh : Value) (R : RSt) (gp : Nat) (S' : Sto) (H' : Nat → Hd) (R' : RSt) (fl' : Bool) (sh' : Value) (hs' : List Rh) : Prop where
  S : StoR w' gs gc S' R'
  T : TabR w' B g gs num fl' sh' hs'
  rel : RelH hs' H'
  ov : overB fl' R'.user num = true ↔ S'.tab ≠ some gp
  us : R'.user = R.user
  tn : R'.tables = R.tables
  wr : R'.writes ≤ R.writes + 1
  hb : ∀ b, sh'.ownBlock = some b → sh.ownBlock = some b ∨ (w.heap.size ≤ b ∧ b < w'.heap.size)
  fr : Fr (g :: gs :: gc :: sh.ownBlock.toList) w w'
def RPs (w w' : World) (B g gs gc num : Nat) (sh : Value) (R : RSt) (gp : Nat) (S' : Sto) (H' : Nat → Hd) : Prop := ∃ R' fl' sh' hs', RPost w w' B g gs gc num sh R gp S' H' R' fl' sh' hs'
theorem RPs.same {w w' : World} {B g gs gc num gp : Nat} {fl : Bool} {sh : Value} {hs : List Rh} {S : Sto} {R : RSt} {H : Nat → Hd} (t : TabR w B g gs num fl sh hs) (hS : StoR w gs gc S R) (hrel : RelH hs H) (hov : overB fl R.user num = true ↔ S.tab ≠ some gp) (hb : Below w.heap.size w w') : RPs w w' B g gs gc num sh R gp S H :=
  ⟨R, fl, sh, hs, hS.below hb, t.below hb, hrel, hov, rfl, rfl, by omega, fun _ h => .inl h, Fr.of_below _ hb (Nat.le_refl _)⟩
theorem RPs.down {w w' : World} {B g gs gc num gp : Nat} {sh : Value} {hs : List Rh} {S : Sto} {R : RSt} {H : Nat → Hd} (t : TabR w' B g gs num true sh hs) (hS : StoR w' gs gc S { R with writes := R.writes + 1 }) (hrel : RelH hs H) (hf : Fr [g, gs, gc] w w') : RPs w w' B g gs gc num sh R gp { S with tab := none } H :=
  ⟨{ R with writes := R.writes + 1 }, true, sh, hs, ⟨hS.r, hS.c, hS.left⟩, t, hrel, ⟨fun _ => by simp, fun _ => rfl⟩, rfl, rfl, Nat.le_refl _, fun _ h => .inl h, hf.sub (by simp)⟩
theorem wrote_tab (S : Sto) (i : Int) (x : ByteArray) : (wroteM S i x).tab = S.tab := by
  unfold wroteM
  split
  · rfl
  · split <;> rfl
theorem alloc_setCell (w : World) (cs : Array Value) (t : TypeId) (j : Nat) (v : Value) : (w.alloc (.cells cs t)).setCell ⟨w.heap.size, j, none⟩ v = w.alloc (.cells (cs.setIfInBounds j v) t) := by
  rw [setCell_eq_setRow _ _ j cs t (0, 0) v (Go.heap_alloc_new w (.cells cs t)), alloc_setRow]
structure ElS (W : World) (g gb : Nat) (sh : Value) (h : Rh) : Prop where
  a3 : W.cell? ⟨g, 3, none⟩ = some sh
  cr : W.heap[gb]? = some (.cells #[.int .i64 h.alg, .int .i64 h.id, .string h.fix, .int .i64 h.seals, .int .i64 h.ahead, .int .i64 h.most, .int .i64 h.res, .bool h.ret, .string h.key, .int .i64 h.pos, .int .i64 h.ctr] 173 (0, 0))
theorem ElS.drew {W : World} {g gb : Nat} {sh : Value} {h : Rh} (s : ElS W g gb sh h) : ElS W.drew g gb sh h := ⟨s.a3, s.cr⟩
theorem ElS.setRow {W : World} {g gb gh : Nat} {sh : Value} {h : Rh} (s : ElS W g gb sh h) (n1 : g ≠ gh) (n2 : gb ≠ gh) (cs : Array Value) : ElS (W.setRow gh cs) g gb sh h :=
  ⟨by rw [cell_setRow_other _ _ _ _ (by exact n1)]; exact s.a3, by rw [setRow_other _ _ _ _ n2]; exact s.cr⟩
attribute [local go_sem ↓] al173 stw173 ldw173
attribute [local go_sem] run_al173 run_stT173 stN_rh run_ldT173_0 ldN_rh blk_new blk_at blk_old blk_drew blk_setCell blk_setRow alloc_setRow alloc_setCell
set_option maxRecDepth 100000 in
set_option maxHeartbeats 8000000 in
theorem rretire_any (B g gs gc num : Nat) (fl : Bool) (sh : Value) (hs : List Rh) (S : Sto) (R : RSt) (gp : Nat) (H : Nat → Hd) (id r : Int) (S' : Sto) (H' : Nat → Hd) (hP : retireP gp S H id r S' H') (hrel : RelH hs H) (hov : overB fl R.user num = true ↔ S.tab ≠ some gp) (hwr : R.writes < 4611686018427387904) (w : World) (t : TabR w B g gs num fl sh hs) (hS : StoR w gs gc S R) :
    Calls Tryz.prog 69 #[ptr g, .int .i64 id] w fun e w' => e = .returned (.int .i64 r) ∧ RPs w w' B g gs gc num sh R gp S' H' := by
  rcases hP with ⟨h1, e1, e2, e3⟩ | ⟨h1, i, c, hL, hc⟩
  · rw [e1, e2, e3]
    clear e1 e2 e3
    have hm := fun w t h => rmay_over B g gs gc num fl sh hs S R id hrel.le (hov.2 h1) w t h
    have HQ : Hid (∀ w', Below w.heap.size w w' → RPs w w' B g gs gc num sh R gp S H) := fun w' hb => RPs.same t hS hrel hov hb
    unfold ptr at hm ⊢
    have HM : Hid _ := hm
    have HT : Hid _ := t
    have HS : Hid _ := hS
    clear hm t hS hrel hov h1
    go_enter Tryz.func69, Tryz.ntmps69
    go_wp2_with fail
    refine (HM.out _ HT.out HS.out).mono ?_
    rintro e w1 ⟨rfl, b1⟩
    go_wp2
    go_ret
    exact ⟨rfl, HQ.out _ b1⟩
  · have ho : overB fl R.user num = false := by
      rw [Bool.eq_false_iff]
      intro e
      exact hov.1 e h1
    have hm := fun w t h => rmay_live B g gs gc num fl sh hs S R H id i c hrel ho hL w t h
    rcases hc with ⟨hc, e1, e2, e3⟩ | ⟨rfl, hput⟩
    · rw [e1, e2, e3]
      clear e1 e2 e3
      have HQ : Hid (∀ w', Below w.heap.size w w' → RPs w w' B g gs gc num sh R gp S H) := fun w' hb => RPs.same t hS hrel hov hb
      have ec : (c == 0) = false := by rw [beq_eq_false_iff_ne]; exact hc
      unfold ptr at hm ⊢
      have HM : Hid _ := hm
      have HT : Hid _ := t
      have HS : Hid _ := hS
      clear hm t hS hrel hov h1 hL
      go_enter Tryz.func69, Tryz.ntmps69
      go_wp2_with fail
      refine (HM.out _ HT.out HS.out).mono ?_
      rintro e w1 ⟨⟨h0, _⟩ | ⟨_, rfl⟩, b1⟩
      · exact absurd h0 hc
      · go_wp2
        go_ret
        exact ⟨rfl, HQ.out _ b1⟩
    · have HP : Hid _ := hput
      have HR : Hid _ := hrel
      have HM : Hid _ := hm
      have HT : Hid _ := t
      have HS : Hid _ := hS
      have HO : Hid _ := hov
      have H1 : Hid _ := h1
      have HWR : Hid _ := hwr
      clear hput hm t hS hrel hov h1 hL hwr
      unfold ptr at HM ⊢
      go_enter Tryz.func69, Tryz.ntmps69
      go_wp2_with fail
      refine (HM.out _ HT.out HS.out).mono ?_
      rintro e w1 ⟨⟨_, k, x, hk, rfl, i8, hx, hret, hst, rfl⟩ | ⟨h0, _⟩, b1⟩
      · have t1 := HT.out.below b1
        have s1 := HS.out.below b1
        have hkl := getE_lt hk
        obtain ⟨p, cap, rfl, hat⟩ := t1.sl
        obtain ⟨gh, rfl, hA, _, _, _⟩ := hat k x hk
        obtain ⟨a0, a1, a2, a3⟩ := cells4' t1.r
        have hld : Sem.run Tryz.prog (LdT 173 (.pointer (some ⟨gh, k * 11, none⟩))) w1 = .ok (.agg (rhA x)) w1 := ld_el hA
        unfold rhA at hld
        have hy := hx.retire
        have B2 := (Below.refl w1.heap.size w1).alloc (Nat.le_refl _) (.cells (rhA { x with ret := true }) 173)
        have hly : Calls Tryz.prog 106 #[.pointer (some ⟨g, 0, none⟩), .agg #[.int .i64 x.alg, .int .i64 x.id, .string x.fix, .int .i64 x.seals, .int .i64 x.ahead, .int .i64 x.most, .int .i64 x.res, .bool true, .string x.key, .int .i64 x.pos, .int .i64 x.ctr]] (w1.alloc (.cells #[.int .i64 x.alg, .int .i64 x.id, .string x.fix, .int .i64 x.seals, .int .i64 x.ahead, .int .i64 x.most, .int .i64 x.res, .bool true, .string x.key, .int .i64 x.pos, .int .i64 x.ctr] 173)) _ := rlay_any B g gs gc num fl _ hs S R { x with ret := true } _ hy (show x.pos < 8 from i8) HWR.out _ (t1.below B2) (s1.below B2)
        have r2 : (w1.alloc (.cells #[.int .i64 x.alg, .int .i64 x.id, .string x.fix, .int .i64 x.seals, .int .i64 x.ahead, .int .i64 x.most, .int .i64 x.res, .bool true, .string x.key, .int .i64 x.pos, .int .i64 x.ctr] 173)).heap[w1.heap.size]? = some (.cells #[.int .i64 x.alg, .int .i64 x.id, .string x.fix, .int .i64 x.seals, .int .i64 x.ahead, .int .i64 x.most, .int .i64 x.res, .bool true, .string x.key, .int .i64 x.pos, .int .i64 x.ctr] 173 (0, 0)) := heap_of_new _ _ _ rfl
        have HLY : Hid _ := hly
        have HX : Hid _ := And.intro hk (And.intro (rfl : x.pos = x.pos) (And.intro hy hst))
        have HT1 : Hid _ := And.intro t1 s1
        have HR2 : Hid _ := r2
        have HB2 : Hid _ := b1
        clear hly hk hx hret hst hat hA b1 t1 s1 B2 r2 hy
        go_wp2_with fail
        refine Calls.mono HLY.out ?_
        rintro e w3 ⟨⟨hl, rfl, t3⟩ | ⟨hl, rfl, t3⟩, s3, f3⟩
        · rcases HP.out with ⟨_, e1, e2, e3⟩ | ⟨hl', _⟩
          · have HE : Hid _ := And.intro e1 (And.intro e2 e3)
            clear e1 e2 e3
            have hq : RPs w w3 B g gs gc num (.slice (some ⟨gh, 0, none⟩) hs.length cap) R gp { wroteM S x.pos (cellT (H x.pos).c.retiring) with tab := none } H := by
              have f4 : Fr [g, gs, gc] w w3 := ((Fr.of_below _ HB2.out (Nat.le_refl _)).alloc _).trans f3
              have s4 : StoR w3 gs gc (wroteM S x.pos (cellT (H x.pos).c.retiring)) { R with writes := R.writes + 1 } := s3
              exact RPs.down t3 s4 HR.out f4
            have HQ : Hid _ := hq
            clear hq t3 s3 f3 HX HT1
            go_wp2
            go_ret
            rw [HE.out.1, HE.out.2.1, HE.out.2.2]
            exact ⟨rfl, HQ.out⟩
          · exact absurd hl hl'
        · rcases HP.out with ⟨hl', _⟩ | ⟨_, e1, e2, e3⟩
          · exact absurd hl' hl
          · have HE : Hid _ := And.intro e1 (And.intro e2 e3)
            clear e1 e2 e3
            have y3 := f3.size
            have n1 : g ≠ gh := by
              obtain ⟨cur, hcur⟩ := owns_row t3.o rfl
              exact ne_rows t3.r hcur (by decide)
            have lb : gh < w1.heap.size := (World.ownsRow.lt HT1.out.1.o gh rfl).2
            have gb0 : ∃ gb, gb = w1.heap.size := ⟨_, rfl⟩
            obtain ⟨gb, hgb⟩ := gb0
            have n2 : gb ≠ gh := by omega
            have lg := HT1.out.1.lt
            have lgs := Row.lt HT1.out.2.r
            have lgc := Row.lt HT1.out.2.c
            have r3 : w3.heap[gb]? = some (.cells (rhA { x with ret := true }) 173 (0, 0)) := by rw [hgb]; exact keepRow f3 HR2.out (by simp; omega)
            have X3 : ElS w3 g gb (.slice (some ⟨gh, 0, none⟩) hs.length cap) { x with ret := true } := ⟨(cells4' t3.r).2.2.2, r3⟩
            obtain ⟨cur', hst, ho'⟩ := st_el (w := w3.drew) t3.drew.o k hkl { x with ret := true }
            have Xc := X3.drew.setRow n1 n2 cur'
            have hq : RPs w (w3.drew.setRow gh cur') B g gs gc num (.slice (some ⟨gh, 0, none⟩) hs.length cap) R gp (wroteM S x.pos (cellT (H x.pos).c.retiring)) (upd H x.pos (H x.pos).c.retiring) := by
              have s4 : StoR w3 gs gc (wroteM S x.pos (cellT (H x.pos).c.retiring)) { R with writes := R.writes + 1 } := s3
              have f4 : Fr [g, gs, gc] w w3 := ((Fr.of_below _ HB2.out (Nat.le_refl _)).alloc _).trans f3
              have f5 : Fr [gh] w3 (w3.drew.setRow gh cur') := Fr.setRow (Fr.refl _ _).drew (.inr (by simp)) _
              have m1 := ne_rows s4.r (owns_row t3.o rfl).choose_spec (by decide)
              have m2 := ne_rows s4.c (owns_row t3.o rfl).choose_spec (by decide)
              refine ⟨{ R with writes := R.writes + 1 }, fl, _, hs.set k { x with ret := true }, s4.fr f5 (by simp [m1]) (by simp [m2]), ⟨keepRow f5 t3.r (by simp [n1]), ho'⟩, ?_, ?_, rfl, rfl, Nat.le_refl _, fun _ h => .inl h, ?_⟩
              · have hset := HR.out.set k x { x with ret := true } ⟨(H x.pos).c.retiring, (H x.pos).ctr⟩ HX.out.1 rfl HX.out.2.2.1 rfl
                exact hset
              · have := (wrote_tab S x.pos (cellT (H x.pos).c.retiring))
                rw [this]; exact HO.out
              · refine (f4.sub ?_).trans (f5.sub ?_)
                · intro b hb
                  simp only [List.mem_cons, List.not_mem_nil, or_false] at hb
                  rcases hb with rfl | rfl | rfl <;> simp
                · intro b hb
                  simp only [List.mem_singleton] at hb
                  subst hb
                  simp [Value.ownBlock]
            have HF : Hid _ := hq
            have hst2 : Sem.run Tryz.prog (StT 173 (.pointer (some ⟨gh, k * 11, none⟩)) (.agg #[.int .i64 x.alg, .int .i64 x.id, .string x.fix, .int .i64 x.seals, .int .i64 x.ahead, .int .i64 x.most, .int .i64 x.res, .bool true, .string x.key, .int .i64 x.pos, .int .i64 x.ctr])) w3.drew = .ok () (w3.drew.setRow gh cur') := hst
            subst hgb
            clear hst hq ho' HX HT1 HR2 HB2 HR HO s3 f3 t3 r3
            go_wp2_with fail
            refine wp_region_held_drew (S := fun W' => ElS W' g w1.heap.size (.slice (some ⟨gh, 0, none⟩) hs.length cap) { x with ret := true }) (by kernel_rfl) X3.drew (fun hHeld => ?_)
            refine tp 0 _ ?r8
            refine nz ?_
            refine tp 1 _ ?r9
            refine nz ?_
            refine tp 2 _ ?r10
            refine nz ?_
            refine tk 3 ?v11 ?y11 ?r11
            case y11 => (intro W' hW; have a3 := hW.a3; go_simp; try with_reducible rfl)
            refine nz ?_
            refine tp 4 _ ?r12
            refine nz ?_
            refine tk 5 ?v13 ?y13 ?r13
            case y13 => (intro W' hW; have hb : blk W' w1.heap.size = _ := hW.cr; go_simp; try with_reducible rfl)
            refine nz ?_
            refine tp 6 _ ?r14
            refine nz ?_
            refine wpAnyH_ready (rs := [7]) (by kernel_rfl) (by simp) ?_
            refine AllReadyH.cons rfl (fun K hK => ?_) ?nil7
            case nil7 => exact AllReadyH.nil
            go_wp2_with fail
            refine hK.out _ _ Xc (fun hHeld => ?_)
            clear hK K
            refine wpAnyH_done (by kernel_rfl) ?_ _
            clear X3 Xc
            go_wp2
            go_ret
            rw [HE.out.1, HE.out.2.1, HE.out.2.2]
            exact ⟨rfl, HF.out⟩
      · exact absurd rfl h0
end Go.Proofs.YtgalgjmhdbncbaaGreat
namespace Go.Proofs.YtgalgjmhdbncbaaGreat
open Go.RowKit
attribute [local go_sem ↓] Go.wp_at_zero Go.wp_at_succ

structure SOk (g : Nat) (S S' : Sto) : Prop where
  left : S'.left ≤ S.left
  tab : S'.tab = S.tab ∨ (S'.tab = none ∧ S.tab = some g)
  cell : ∀ j, S'.cell j = S.cell j ∨ (S'.cell j).size ≤ 64
theorem SOk.refl (g : Nat) (S : Sto) : SOk g S S := ⟨Nat.le_refl _, .inl rfl, fun _ => .inl rfl⟩
theorem wrote_ok (S : Sto) (i : Nat) (x : ByteArray) (hx : x.size ≤ 64) : (wroteM S i x).left ≤ S.left ∧ (wroteM S i x).tab = S.tab ∧ ∀ j, (wroteM S i x).cell j = S.cell j ∨ ((wroteM S i x).cell j).size ≤ 64 := by
  unfold wroteM
  split
  · exact ⟨Nat.le_refl _, rfl, fun _ => .inl rfl⟩
  · split
    · exact ⟨Nat.le_refl _, rfl, fun _ => .inl rfl⟩
    · refine ⟨by dsimp only; omega, rfl, fun j => ?_⟩
      dsimp only
      split
      · exact .inl rfl
      · dsimp only
        split
        · exact .inr hx
        · exact .inl rfl
theorem cellT_le {c : Cl} (h : ClOk c) : (cellT c).size ≤ 64 := by
  rw [cellT_size, h.key]
  have := h.alg
  split <;> omega
theorem SOk.put {g i : Nat} {S S' : Sto} {H H' : Nat → Hd} {c : Cl} {e : Int} (h : putP S H i c e S' H') (hc : ClOk c) (ht : S.tab = some g) : SOk g S S' := by
  obtain ⟨a, b, d⟩ := wrote_ok S i (cellT c) (cellT_le hc)
  rcases h with ⟨_, _, rfl, _⟩ | ⟨_, _, rfl, _⟩
  · exact ⟨a, .inr ⟨rfl, ht⟩, d⟩
  · exact ⟨a, .inl b, d⟩
theorem liveP.at {H : Nat → Hd} {id : Int} {i : Nat} (h : liveP H id i 0) : i < 8 ∧ (H i).c.st ≠ 0 := by
  rcases h with ⟨a, b, _⟩ | ⟨_, _, h⟩ | ⟨_, _, h⟩
  · exact ⟨a, b.1⟩
  · simp at h
  · simp at h
theorem SOk.retire {g : Nat} {S S' : Sto} {H H' : Nat → Hd} {id e : Int} (h : retireP g S H id e S' H') (hH : TOk H) : SOk g S S' := by
  rcases h with ⟨_, _, rfl, _⟩ | ⟨ht, i, c, hL, ⟨_, _, rfl, _⟩ | ⟨rfl, hp⟩⟩
  · exact .refl _ _
  · exact .refl _ _
  · obtain ⟨a, b⟩ := hL.at
    exact .put hp (hH i a b).retire ht
theorem SOk.create {g : Nat} {S S' : Sto} {H H' : Nat → Hd} {id e : Int} {key fix : ByteArray} {s a m : Int} (h : createP g S H id key fix s a m e S' H') : SOk g S S' := by
  rcases h with ⟨_, _, rfl, _⟩ | ⟨ht, ⟨_, _, rfl, _⟩ | ⟨⟨i1, i2, hf, hc⟩, ⟨_, _, rfl, _⟩ | ⟨A, a1, a2, a3, ⟨_, _, rfl, _⟩ | ⟨_, ⟨_, _, rfl, _⟩ | ⟨i, _, _, _, hp⟩⟩⟩⟩⟩
  · exact .refl _ _
  · exact .refl _ _
  · exact .refl _ _
  · exact .refl _ _
  · exact .refl _ _
  · obtain ⟨⟨c1, c2⟩, ⟨c3, c4⟩, ⟨c5, c6⟩⟩ := hc
    exact .put hp ⟨.inl rfl, ⟨a1, a2⟩, by show id.toNat ≤ 65535; omega, hf, ⟨⟨by dsimp only; omega, by dsimp only; omega⟩, ⟨by dsimp only; omega, by dsimp only; omega⟩, ⟨by dsimp only; omega, by dsimp only; omega⟩⟩, Nat.zero_le _, by simp [a3]⟩ ht
theorem SOk.seal {g : Nat} {S S' : Sto} {H H' : Nat → Hd} {id e : Int} {m p s : ByteArray} (h : sealP g S H id m p s e S' H') (hH : TOk H) : SOk g S S' := by
  rcases h with ⟨_, _, _, rfl, _⟩ | ⟨ht, i, c, hL, ⟨_, _, _, rfl, _⟩ | ⟨rfl, ⟨_, _, _, rfl, _⟩ | ⟨_, ⟨_, _, _, rfl, _⟩ | ⟨_, ⟨_, _, _, rfl, _⟩ | ⟨_, ⟨_, _, _, rfl, _⟩ | ⟨_, _, _, rfl, _⟩⟩⟩⟩⟩⟩
  · exact .refl _ _
  · exact .refl _ _
  · exact .refl _ _
  · exact .refl _ _
  · exact .refl _ _
  · obtain ⟨a, b⟩ := hL.at
    obtain ⟨x, y, z⟩ := wrote_ok S i _ (cellT_le (hH i a b).reserve)
    exact ⟨x, .inr ⟨rfl, ht⟩, z⟩
  · obtain ⟨a, b⟩ := hL.at
    obtain ⟨x, y, z⟩ := wrote_ok S i _ (cellT_le (hH i a b).reserve)
    exact ⟨x, .inl y, z⟩
theorem TabB.refs {w w1 : World} {B : Nat} {r : Rg} {v : Vt} (T : TabB w B r.gx r.gr r.num r.fl r.sh r.hs r.H v.gx v.gr v.S v.R) (Sb : StoB w v.gx v.gr v.gc v.S v.R) (F1 : Fr [r.gx, v.gx] w w1) : TabR w1 B r.gr v.gr r.num r.fl r.sh r.hs ∧ StoR w1 v.gr v.gc v.S v.R := by
  have n1 := ne_rows T.r.r T.p (by decide)
  have n2 := ne_rows T.r.r Sb.p (by decide)
  have n3 := ne_rows Sb.r.r T.p (by decide)
  have n4 := ne_rows Sb.r.r Sb.p (by decide)
  have n5 := ne_rows Sb.r.c T.p (by decide)
  have n6 := ne_rows Sb.r.c Sb.p (by decide)
  refine ⟨T.r.fr F1 (by simp [n1, n2]) (fun b hb => ?_), Sb.r.fr F1 (by simp [n3, n4]) (by simp [n5, n6])⟩
  obtain ⟨cur, hcur⟩ := owns_row T.r.o hb
  have m1 := ne_rows hcur T.p (by decide)
  have m2 := ne_rows hcur Sb.p (by decide)
  simp [m1, m2]
theorem Wrk.make {w w1 w2 : World} {B : Nat} {r : Rg} {v : Vt} {S' : Sto} {H' : Nat → Hd} (T : TabB w B r.gx r.gr r.num r.fl r.sh r.hs r.H v.gx v.gr v.S v.R) (Sb : StoB w v.gx v.gr v.gc v.S v.R) (cz : ∀ j, j < 8 → (v.S.cell j).size ≤ 64) (hok : SOk r.gx v.S S')
    (p : StoP w1 v.gx S') (tp : TabP w1 r.gx v.gx H') (F1 : Fr [r.gx, v.gx] w w1) (hR : RPs w1 w2 B r.gr v.gr v.gc r.num r.sh v.R r.gx S' H') : ∃ r' v', Wrk w w2 B r v r' v' ∧ v'.S = S' ∧ r'.H = H' := by
  obtain ⟨R', fl', sh', hs', q⟩ := hR
  obtain ⟨t1, s1⟩ := TabB.refs T Sb F1
  have n1 := ne_rows tp t1.r (by decide)
  have n2 := ne_rows tp s1.r (by decide)
  have n3 := ne_rows tp s1.c (by decide)
  have m1 := ne_rows p t1.r (by decide)
  have m2 := ne_rows p s1.r (by decide)
  have m3 := ne_rows p s1.c (by decide)
  have nb : ∀ b, b ∈ r.sh.ownBlock.toList → r.gx ≠ b ∧ v.gx ≠ b := by
    intro b hb
    obtain ⟨cur, hcur⟩ := owns_row t1.o (by simpa using hb : r.sh.ownBlock = some b)
    exact ⟨ne_rows tp hcur (by decide), ne_rows p hcur (by decide)⟩
  have hx : r.gx ∉ (r.gr :: v.gr :: v.gc :: r.sh.ownBlock.toList) := by
    simp only [List.mem_cons, not_or]
    exact ⟨n1, n2, n3, fun h => (nb _ h).1 rfl⟩
  have hy : v.gx ∉ (r.gr :: v.gr :: v.gc :: r.sh.ownBlock.toList) := by
    simp only [List.mem_cons, not_or]
    exact ⟨m1, m2, m3, fun h => (nb _ h).2 rfl⟩
  have sz := F1.size
  refine ⟨⟨r.gx, r.gr, r.v, r.num, fl', sh', hs', H'⟩, ⟨v.gx, v.gr, v.gc, S', R'⟩, ⟨rfl, rfl, rfl, rfl, rfl, rfl, ⟨Row.fr p q.fr hy, q.S, Nat.le_trans hok.left Sb.l⟩, ⟨Row.fr tp q.fr hx, q.T, q.rel, q.ov, by rw [q.tn]; exact T.nm⟩, q.us, q.tn, q.wr, hok.tab, ?_, ?_, ?_⟩, rfl, rfl⟩
  · intro j hj
    rcases hok.cell j with e | e
    · show (S'.cell j).size ≤ 64
      rw [e]; exact cz j hj
    · exact e
  · intro b hb
    rcases q.hb b hb with e | ⟨e, e2⟩
    · exact .inl e
    · exact .inr ⟨by omega, e2⟩
  · refine (F1.sub ?_).trans (q.fr.sub ?_)
    · intro k hk
      simp only [List.mem_cons, List.not_mem_nil, or_false] at hk
      rcases hk with rfl | rfl <;> simp
    · intro k hk
      simp only [List.mem_cons] at hk
      rcases hk with rfl | rfl | rfl | hk
      · simp
      · simp
      · simp
      · simp [hk]
end Go.Proofs.YtgalgjmhdbncbaaGreat
