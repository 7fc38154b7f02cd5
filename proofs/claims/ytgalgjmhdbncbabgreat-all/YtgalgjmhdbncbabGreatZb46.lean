import Derived.Test.YtgalgjmhdbncbabGreatZb00
import Derived.Test.YtgalgjmhdbncbabGreatZb42
import Derived.Test.YtgalgjmhdbncbabGreatZb43
import Derived.Test.YtgalgjmhdbncbabGreatZb27
namespace Go.Proofs.YtgalgjmhdbncbabGreat
open Go.RowKit
attribute [local go_sem ↓] Go.wp_at_zero Go.wp_at_succ

structure SlT (w W : World) (B g gs gc num : Nat) (fl : Bool) (sh : Value) (hs : List Rh) (S2 : Sto) (R2 : RSt) : Prop where
  t : TabR W B g gs num fl sh hs
  s : StoR W gs gc S2 R2
  f : Fr [g, gs, gc] w W
  l : ∀ b, sh.ownBlock = some b → b < w.heap.size
theorem SlT.drew {w W : World} {B g gs gc num : Nat} {fl : Bool} {sh : Value} {hs : List Rh} {S2 : Sto} {R2 : RSt} (h : SlT w W B g gs gc num fl sh hs S2 R2) : SlT w W.drew B g gs gc num fl sh hs S2 R2 := ⟨h.t.drew, h.s.drew, h.f.drew, h.l⟩
theorem SlT.below {w W W' : World} {B g gs gc num : Nat} {fl : Bool} {sh : Value} {hs : List Rh} {S2 : Sto} {R2 : RSt} (h : SlT w W B g gs gc num fl sh hs S2 R2) (hb : Below W.heap.size W W') : SlT w W' B g gs gc num fl sh hs S2 R2 := ⟨h.t.below hb, h.s.below hb, h.f.trans (Fr.of_below _ hb (Nat.le_refl _)), h.l⟩
structure Bx (w : World) (gb g gs gc : Nat) (sh : Value) : Prop where
  n : w.heap.size ≤ gb
  g : gb ≠ g
  s : gb ≠ gs
  c : gb ≠ gc
  h : ∀ b, sh.ownBlock = some b → b ≠ gb
theorem SlT.set {w W : World} {B g gs gc num : Nat} {fl : Bool} {sh : Value} {hs : List Rh} {S2 : Sto} {R2 : RSt} (h : SlT w W B g gs gc num fl sh hs S2 R2) (gb j : Nat) (v : Value) (hb : Bx w gb g gs gc sh) : SlT w (W.setCell ⟨gb, j, none⟩ v) B g gs gc num fl sh hs S2 R2 := by
  have F : Fr [gb] W (W.setCell ⟨gb, j, none⟩ v) := Fr.setCell (Fr.refl _ _) (.inr (by simp)) _
  have n1 := hb.g
  have n2 := hb.s
  have n3 := hb.c
  exact ⟨h.t.fr F (by simp; omega) (fun b hb' => by simpa using hb.h b hb'), h.s.fr F (by simp; omega) (by simp; omega), Fr.setCell h.f (.inl hb.n) v, h.l⟩
theorem box_ctr {W : World} {gb : Nat} {v0 v1 v2 v3 v4 v5 v6 v7 v8 v9 v10 : Value} (h : W.heap[gb]? = some (.cells #[v0, v1, v2, v3, v4, v5, v6, v7, v8, v9, v10] 113 (0, 0))) (v : Value) : (W.setCell ⟨gb, 10, none⟩ v).heap[gb]? = some (.cells #[v0, v1, v2, v3, v4, v5, v6, v7, v8, v9, v] 113 (0, 0)) := by
  simpa using heap_setCell_same W gb 10 _ 113 v h
theorem RPs.fr {w W W' : World} {B g gs gc num gp : Nat} {sh : Value} {R : RSt} {S' : Sto} {H' : Nat → Hd} (h : RPs w W B g gs gc num sh R gp S' H') (hf : Fr [] W W') : RPs w W' B g gs gc num sh R gp S' H' := by
  obtain ⟨R', fl', sh', hs', a, b, c, d, e, f, i, j, k⟩ := h
  exact ⟨R', fl', sh', hs', a.fr hf (by simp) (by simp), b.fr hf (by simp) (by simp), c, d, e, f, i, fun x hx => (j x hx).imp id (fun y => ⟨y.1, Nat.lt_of_lt_of_le y.2 hf.size⟩), k.trans (hf.sub (by simp))⟩
theorem RPs.drew {w W : World} {B g gs gc num gp : Nat} {sh : Value} {R : RSt} {S' : Sto} {H' : Nat → Hd} (h : RPs w W B g gs gc num sh R gp S' H') : RPs w W.drew B g gs gc num sh R gp S' H' := h.fr (Fr.refl _ _).drew
theorem RPs.alloc {w W : World} {B g gs gc num gp : Nat} {sh : Value} {R : RSt} {S' : Sto} {H' : Nat → Hd} (h : RPs w W B g gs gc num sh R gp S' H') (o : Obj) : RPs w (W.alloc o) B g gs gc num sh R gp S' H' := h.fr ((Fr.refl _ _).alloc o)
theorem RPs.below {w W W' : World} {B g gs gc num gp : Nat} {sh : Value} {R : RSt} {S' : Sto} {H' : Nat → Hd} (h : RPs w W B g gs gc num sh R gp S' H') (hb : Below W.heap.size W W') : RPs w W' B g gs gc num sh R gp S' H' := h.fr (Fr.of_below _ hb (Nat.le_refl _))
structure SlK (hs : List Rh) (H : Nat → Hd) (k : Nat) (x y : Rh) (d : Hd) (num : Nat) (fl : Bool) (R R2 : RSt) (gp : Nat) (S2 : Sto) : Prop where
  k : hs[k]? = some x
  p : y.pos = x.pos
  r : HRel { y with ctr := y.ctr + 1 } d
  i : d.c.id = (H x.pos).c.id
  rel : RelH hs H
  ov : overB fl R2.user num = true ↔ S2.tab ≠ some gp
  us : R2.user = R.user
  tn : R2.tables = R.tables
  wr : R2.writes ≤ R.writes + 1
theorem SlT.put {w W : World} {B g gs gc num gh cap k gb gp : Nat} {fl : Bool} {hs : List Rh} {H : Nat → Hd} {S2 : Sto} {R R2 : RSt} {x y : Rh} {d : Hd} (h : SlT w W B g gs gc num fl (.slice (some ⟨gh, 0, none⟩) hs.length cap) hs S2 R2) (K : SlK hs H k x y d num fl R R2 gp S2) (hl : k < hs.length) (hb : Bx w gb g gs gc (.slice (some ⟨gh, 0, none⟩) hs.length cap))
    (X0 : W.heap[gb]? = some (.cells #[.int .i64 y.alg, .int .i64 y.id, .string y.fix, .int .i64 y.seals, .int .i64 y.ahead, .int .i64 y.most, .int .i64 y.res, .bool y.ret, .string y.key, .int .i64 y.pos, .int .i64 ((y.ctr : Int) + 1)] 113 (0, 0))) :
    ∃ cur', Sem.run Tryz.prog (StT 113 (.pointer (some ⟨gh, k * 11, none⟩)) (.agg #[.int .i64 y.alg, .int .i64 y.id, .string y.fix, .int .i64 y.seals, .int .i64 y.ahead, .int .i64 y.most, .int .i64 y.res, .bool y.ret, .string y.key, .int .i64 y.pos, .int .i64 ((y.ctr : Int) + 1)])) W.drew = .ok () (W.drew.setRow gh cur') ∧ RPs w (W.drew.setRow gh cur') B g gs gc num (.slice (some ⟨gh, 0, none⟩) hs.length cap) R gp S2 (setD H x.pos d) ∧
      ((W.drew.setRow gh cur').cell? ⟨g, 3, none⟩ = some (.slice (some ⟨gh, 0, none⟩) hs.length cap) ∧ (W.drew.setRow gh cur').heap[gb]? = some (.cells #[.int .i64 y.alg, .int .i64 y.id, .string y.fix, .int .i64 y.seals, .int .i64 y.ahead, .int .i64 y.most, .int .i64 y.res, .bool y.ret, .string y.key, .int .i64 y.pos, .int .i64 ((y.ctr : Int) + 1)] 113 (0, 0))) := by
  obtain ⟨cur', hst, ho'⟩ := st_el (w := W.drew) h.t.drew.o k hl { y with ctr := y.ctr + 1 }
  have n1 : g ≠ gh := by
    obtain ⟨cur, hcur⟩ := owns_row h.t.o rfl
    exact ne_rows h.t.r hcur (by decide)
  have n2 : gb ≠ gh := fun e => hb.h gh rfl e.symm
  obtain ⟨cur, hcur⟩ := owns_row h.t.o rfl
  have m1 := ne_rows h.s.r hcur (by decide)
  have m2 := ne_rows h.s.c hcur (by decide)
  have f5 : Fr [gh] W (W.drew.setRow gh cur') := Fr.setRow (Fr.refl _ _).drew (.inr (by simp)) _
  refine ⟨cur', hst, ⟨R2, fl, _, hs.set k { y with ctr := y.ctr + 1 }, h.s.fr f5 (by simp [m1]) (by simp [m2]), ⟨keepRow f5 h.t.r (by simp [n1]), ho'⟩, K.rel.set k x { y with ctr := y.ctr + 1 } d K.k K.p K.r K.i, K.ov, K.us, K.tn, K.wr, fun _ h => .inl h, ?_⟩, ?_, ?_⟩
  · refine (h.f.sub ?_).trans (f5.sub ?_)
    · intro b hb
      simp only [List.mem_cons, List.not_mem_nil, or_false] at hb
      rcases hb with rfl | rfl | rfl <;> simp
    · intro b hb
      simp only [List.mem_singleton] at hb
      subst hb
      simp [Value.ownBlock]
  · rw [cell_setRow_other _ _ _ _ (by exact n1)]
    exact (cells4' h.t.r).2.2.2
  · rw [setRow_other _ _ _ _ n2]
    exact X0
attribute [local go_sem ↓] al173 stw173 ldw173
attribute [local go_sem] run_al173 run_stT173 stN_rh run_ldT173_0 ldN_rh blk_new blk_at blk_old blk_drew blk_setCell blk_setRow alloc_setRow alloc_setCell
set_option maxRecDepth 100000 in
set_option maxHeartbeats 8000000 in
theorem rseal_any (B g gs gc num : Nat) (fl : Bool) (sh : Value) (hs : List Rh) (S : Sto) (R : RSt) (gp : Nat) (H : Nat → Hd) (id : Int) (m p s : ByteArray) (r : Int) (S' : Sto) (H' : Nat → Hd) (hP : sealP gp S H id m p s r S' H') (hrel : RelH hs H) (hov : overB fl R.user num = true ↔ S.tab ≠ some gp) (hwr : R.writes < 4611686018427387904) (hmz : m.size ≤ maxLen) (hpz : p.size ≤ maxLen) (w : World) (t : TabR w B g gs num fl sh hs) (hS : StoR w gs gc S R) :
    Calls Tryz.prog 31 #[ptr g, .int .i64 id, .string m, .string p] w fun e w' => e = .returned (.tuple #[.string s, .int .i64 r]) ∧ RPs w w' B g gs gc num sh R gp S' H' := by
  have HQ : Hid (∀ w', Below w.heap.size w w' → RPs w w' B g gs gc num sh R gp S H) := fun w' hb => RPs.same t hS hrel hov hb
  rcases hP with ⟨h1, e1, e2, e3, e4⟩ | ⟨h1, i, c, hL, hc⟩
  · rw [e1, e2, e3, e4]
    clear e1 e2 e3 e4
    have hm := fun w t h => rmay_over B g gs gc num fl sh hs S R id hrel.le (hov.2 h1) w t h
    unfold ptr at hm ⊢
    have HM : Hid _ := hm
    have HT : Hid _ := t
    have HS : Hid _ := hS
    clear hm t hS hrel hov h1
    go_enter Tryz.func31, Tryz.ntmps31
    go_wp2_with fail
    refine (HM.out _ HT.out HS.out).mono ?_
    rintro e w1 ⟨rfl, b1⟩
    go_wp2
    go_ret2
    exact ⟨rfl, HQ.out _ b1⟩
  · have ho : overB fl R.user num = false := by
      rw [Bool.eq_false_iff]
      intro e
      exact hov.1 e h1
    have hm := fun w t h => rmay_live B g gs gc num fl sh hs S R H id i c hrel ho hL w t h
    rcases hc with ⟨hc, e1, e2, e3, e4⟩ | ⟨rfl, hc⟩
    · rw [e1, e2, e3, e4]
      clear e1 e2 e3 e4
      have ec : (c == 0) = false := by rw [beq_eq_false_iff_ne]; exact hc
      unfold ptr at hm ⊢
      have HM : Hid _ := hm
      have HT : Hid _ := t
      have HS : Hid _ := hS
      clear hm t hS hrel hov h1 hL
      go_enter Tryz.func31, Tryz.ntmps31
      go_wp2_with fail
      refine (HM.out _ HT.out HS.out).mono ?_
      rintro e w1 ⟨⟨h0, _⟩ | ⟨_, rfl⟩, b1⟩
      · exact absurd h0 hc
      · go_wp2
        go_ret2
        exact ⟨rfl, HQ.out _ b1⟩
    · have HC : Hid _ := hc
      have HR : Hid _ := hrel
      have HM : Hid _ := hm
      have HT : Hid _ := t
      have HS : Hid _ := hS
      have HO : Hid _ := hov
      have H1 : Hid _ := h1
      have HWR : Hid _ := hwr
      have HIT : Hid _ := hL
      have HPZ : Hid _ := hpz
      have HMZ : Hid _ := hmz
      clear hc hm t hS hrel hov h1 hL hwr hpz hmz
      unfold ptr at HM ⊢
      go_enter Tryz.func31, Tryz.ntmps31
      go_wp2_with fail
      refine (HM.out _ HT.out HS.out).mono ?_
      rintro e w1 ⟨⟨_, k, x, hk, rfl, i8, hx, hret, hst, rfl⟩ | ⟨h0, _⟩, b1⟩
      · have t1 := HT.out.below b1
        have s1 := HS.out.below b1
        have hkl := getE_lt hk
        have hid : id = (x.id : Int) := by
          rcases HIT.out with ⟨_, h, _⟩ | ⟨_, _, h⟩ | ⟨_, _, h⟩
          · rw [hx.id]; exact h.2.symm
          · simp at h
          · simp at h
        subst hid
        obtain ⟨q, cap, rfl, hat⟩ := t1.sl
        obtain ⟨gh, rfl, hA, lh, _, _⟩ := hat k x hk
        obtain ⟨a0, a1, a2, a3⟩ := cells4' t1.r
        have hld : Sem.run Tryz.prog (LdT 113 (.pointer (some ⟨gh, k * 11, none⟩))) w1 = .ok (.agg (rhA x)) w1 := ld_el hA
        unfold rhA at hld
        have lsh : ∀ b, (Value.slice (some ⟨gh, 0, none⟩) hs.length cap).ownBlock = some b → b < w.heap.size := fun b hb => (World.ownsRow.lt HT.out.o b hb).2
        have hbx : Bx w w1.heap.size g gs gc (.slice (some ⟨gh, 0, none⟩) hs.length cap) := by
          have y1 := b1.size
          have l1 := HT.out.lt
          have l2 := Row.lt HS.out.r
          have l3 := Row.lt HS.out.c
          exact ⟨y1, by omega, by omega, by omega, fun b hb => by have := lsh b hb; omega⟩
        have HGB : Hid _ := hbx
        have HLS : Hid _ := lsh
        obtain ⟨⟨q1, q2⟩, ⟨q3, q4⟩, ⟨q5, q6⟩⟩ := hx.ok.cfg
        have q7 := hx.ok.res
        have q8 := hx.cr
        have e1 := hx.seals
        have e2 := hx.ahead
        have e3 := hx.most
        have e4 := hx.res
        have e5 := hx.ctr
        have b2 : x.seals ≤ 65535 := by omega
        have b3 : x.ahead ≤ 100 := by omega
        have b4 : x.most ≤ 200 := by omega
        have b5 : x.res ≤ x.seals := by omega
        have b6 : x.ctr ≤ x.res := by omega
        have HX : Hid _ := And.intro hk (And.intro hx hst)
        have HT1 : Hid _ := And.intro t1 s1
        have HB1 : Hid _ := b1
        have HEQ : Hid _ := And.intro e1 (And.intro e3 (And.intro e4 e5))
        have HI8 : Hid _ := i8
        clear hk hx hret hst hat hA b1 t1 s1 hbx lsh q1 q2 q3 q4 q5 q6 q7 q8 e1 e2 e3 e4 e5 i8 lh
        have HB2 : Hid (Below w.heap.size w (w1.alloc (.cells #[.int .i64 x.alg, .int .i64 x.id, .string x.fix, .int .i64 x.seals, .int .i64 x.ahead, .int .i64 x.most, .int .i64 x.res, .bool x.ret, .string x.key, .int .i64 x.pos, .int .i64 x.ctr] 113))) := HB1.out.alloc HB1.out.size _
        rcases HC.out with ⟨hlong, f1, f2, f3, f4⟩ | ⟨hshort, hc⟩
        · have HE : Hid _ := And.intro f1 (And.intro f2 (And.intro f3 f4))
          clear f1 f2 f3 f4
          by_cases hm : 180 < m.size
          · have hm' : (180 : Int) < (m.size : Int) := by omega
            clear hlong
            go_wp2
            go_ret2
            rw [HE.out.1, HE.out.2.1, HE.out.2.2.1, HE.out.2.2.2]
            exact ⟨rfl, HQ.out _ HB2.out⟩
          · have hm' : ¬ ((180 : Int) < (m.size : Int)) := by omega
            have hp' : (x.most : Int) < (p.size : Int) := by
              have := HEQ.out.2.1
              omega
            clear hlong
            go_wp2
            go_ret2
            rw [HE.out.1, HE.out.2.1, HE.out.2.2.1, HE.out.2.2.2]
            exact ⟨rfl, HQ.out _ HB2.out⟩
        · have hm' : ¬ ((180 : Int) < (m.size : Int)) := by omega
          have hp' : ¬ ((x.most : Int) < (p.size : Int)) := by
            have := HEQ.out.2.1
            omega
          have hm0 : m.size ≤ 180 := by omega
          have hp0 : p.size ≤ 200 := by omega
          have HM0 : Hid _ := hm0
          have HP0 : Hid _ := hp0
          clear hshort hm0 hp0
          rcases hc with ⟨hsp, f1, f2, f3, f4⟩ | ⟨hsp, hc⟩
          · have HE : Hid _ := And.intro f1 (And.intro f2 (And.intro f3 f4))
            have hs' : (x.seals : Int) ≤ (x.ctr : Int) := by
              have := HEQ.out.1
              have := HEQ.out.2.2.2
              omega
            clear f1 f2 f3 f4 hsp
            go_wp2
            go_ret2
            rw [HE.out.1, HE.out.2.1, HE.out.2.2.1, HE.out.2.2.2]
            exact ⟨rfl, HQ.out _ HB2.out⟩
          · have hs' : ¬ ((x.seals : Int) ≤ (x.ctr : Int)) := by
              have := HEQ.out.1
              have := HEQ.out.2.2.2
              omega
            clear hsp
            rcases hc with ⟨hre, f1, f2, f3, f4⟩ | ⟨hre, hc⟩
            · have hr' : ¬ ((x.res : Int) ≤ (x.ctr : Int)) := by
                have := HEQ.out.2.2.1
                have := HEQ.out.2.2.2
                omega
              have HE : Hid (s = sealR (H x.pos) m p ∧ r = 0 ∧ S' = S ∧ H' = setD H x.pos ⟨(H x.pos).c, (H x.pos).ctr + 1⟩) := ⟨f1, f2, f3, by rw [f4]; rfl⟩
              have HK : Hid (SlK hs H k x { x with res := x.res } ⟨(H x.pos).c, (H x.pos).ctr + 1⟩ num fl R R gp S) := ⟨HX.out.1, rfl, HX.out.2.1.bump (by have := HX.out.2.1.cr; omega), rfl, HR.out, HO.out, rfl, rfl, by omega⟩
              obtain ⟨nn, hnn⟩ : ∃ nn, x.fix ++ numT x.ctr 8 = nn := ⟨_, rfl⟩
              have hfx : x.fix.size = 4 := by rw [HX.out.2.1.fix]; exact HX.out.2.1.ok.fix
              have hnz : nn.size = 12 := by rw [← hnn, ByteArray.size_append, hfx, numT_size]
              obtain ⟨E, hE⟩ : ∃ E, encT x.alg x.id nn (zs p.size) (numT 0 16) = E := ⟨_, rfl⟩
              obtain ⟨HD, hHD⟩ : ∃ HD, headT x.alg x.id nn p = HD := ⟨_, rfl⟩
              obtain ⟨SE, hSE⟩ : ∃ SE, sealT x.key nn (HD ++ m) p = SE := ⟨_, rfl⟩
              have hkz : KeyLen x.key.size := by
                rw [HX.out.2.1.key HX.out.2.2, HX.out.2.1.ok.key, if_pos HX.out.2.2]
                have := HX.out.2.1.ok.alg
                unfold KeyLen
                omega
              have hal := HX.out.2.1.ok.alg
              rw [← HX.out.2.1.alg] at hal
              have hids := HX.out.2.1.ok.id
              rw [← HX.out.2.1.id] at hids
              have hEz : E.size = 36 + p.size := by rw [← hE, encT_len, zs_size]
              have hEh : E.extract 0 20 = HD := by rw [← hE, enc_head _ _ _ _ _ hnz (by rw [zs_size]; exact HP0.out) (numT_size _ _), ← hHD]; exact head_like _ _ _ _ _ (zs_size _)
              have hHz : HD.size = 20 := by rw [← hHD, headT_size]
              have hSz : SE.size = p.size + 16 := by rw [← hSE]; unfold sealT; rw [ByteArray.size_append, maskT_size, str_size]
              have hctr : x.ctr ≤ 65535 := by omega
              have fa1 : ∀ w, Calls Tryz.prog 72 #[.int .i64 x.ctr, .int .i64 8] w fun e w' => e = .returned (.string (numT x.ctr 8)) ∧ Below w.heap.size w w' := fun w => number_ref x.ctr 8 (by omega) (by omega) w
              have fa2 : ∀ w, Calls Tryz.prog 72 #[.int .i64 0, .int .i64 16] w fun e w' => e = .returned (.string (numT 0 16)) ∧ Below w.heap.size w w' := fun w => number_ref 0 16 (by omega) (by omega) w
              have fa3 : ∀ w, Calls Tryz.prog 46 #[.agg #[.int .i64 x.alg, .int .i64 x.id, .string nn, .string (zs p.size), .string (numT 0 16)]] w fun e w' => e = .returned (.tuple #[.string E, .int .i64 0]) ∧ Below w.heap.size w w' := fun w => by
                rw [← hE]
                exact refEncode_yes x.alg x.id nn (zs p.size) (numT 0 16) hal.1 hal.2 hids hnz (by rw [zs_size]; exact HP0.out) (numT_size _ _) w
              have fa4 : ∀ w, Calls Tryz.prog 42 #[.string x.key, .string nn, .string (HD ++ m), .string p] w fun e w' => e = .returned (.tuple #[.string SE, .int .i64 0]) ∧ Below w.heap.size w w' := fun w => by
                rw [← hSE]
                exact rSeal_ok x.key nn (HD ++ m) p hkz (by unfold NonceLen; omega) (by rw [ByteArray.size_append, hHz]; have := HM0.out; omega) HP0.out w
              have HFA : Hid _ := And.intro fa1 (And.intro fa2 (And.intro fa3 fa4))
              have HNN : Hid _ := hnn
              have HI12 : Hid (¬ (9223372036854775807 < x.fix.size + (numT x.ctr 8).size)) := by show ¬ _; rw [numT_size]; omega
              have HI20 : Hid ((20 : Int) ≤ (E.size : Int)) := by show (20 : Int) ≤ _; omega
              have HHD : Hid _ := hEh
              have HHZ : Hid _ := hHz
              have HI21 : Hid (¬ (9223372036854775807 < 20 + m.size)) := by show ¬ _; have := HM0.out; omega
              have HI22 : Hid (¬ (9223372036854775807 < 20 + SE.size)) := by show ¬ _; have := HP0.out; omega
              have HRC : Hid (HD ++ SE = sealR (H x.pos) m p) := by
                show HD ++ SE = _
                have hx := HX.out.2.1
                have hn2 : hnonT (H x.pos) = nn := by unfold hnonT; rw [← hnn, hx.fix, hx.ctr]
                have := seal_rec (H x.pos) m p hx.ok.fix HP0.out
                rw [hn2, ← hx.alg, ← hx.id, ← hx.key HX.out.2.2, hHD, hSE] at this
                exact this
              clear fa1 fa2 fa3 fa4 hnn hfx hnz hE hHD hSE hkz hal hids hEz hEh hHz hSz hctr
              clear f1 f2 f3 f4 hre HR HO HEQ HC HM
              obtain ⟨gb, hgb⟩ : ∃ gb, w1.heap.size = gb := ⟨_, rfl⟩
              have HBX : Hid ((w1.alloc (.cells #[.int .i64 x.alg, .int .i64 x.id, .string x.fix, .int .i64 x.seals, .int .i64 x.ahead, .int .i64 x.most, .int .i64 x.res, .bool x.ret, .string x.key, .int .i64 x.pos, .int .i64 x.ctr] 113)).heap[gb]? = some (.cells #[.int .i64 x.alg, .int .i64 x.id, .string x.fix, .int .i64 x.seals, .int .i64 x.ahead, .int .i64 x.most, .int .i64 x.res, .bool x.ret, .string x.key, .int .i64 x.pos, .int .i64 x.ctr] 113 (0, 0))) := by rw [← hgb]; exact heap_of_new _ _ _ rfl
              have HSL : Hid (SlT w (w1.alloc (.cells #[.int .i64 x.alg, .int .i64 x.id, .string x.fix, .int .i64 x.seals, .int .i64 x.ahead, .int .i64 x.most, .int .i64 x.res, .bool x.ret, .string x.key, .int .i64 x.pos, .int .i64 x.ctr] 113)) B g gs gc num fl (.slice (some ⟨gh, 0, none⟩) hs.length cap) hs S R) := ⟨HT1.out.1.fr ((Fr.refl [] _).alloc _) (by simp) (by simp), HT1.out.2.fr ((Fr.refl [] _).alloc _) (by simp) (by simp), (Fr.of_below _ HB1.out (Nat.le_refl _)).alloc _, HLS.out⟩
              rw [hgb] at HGB
              have HGE : Hid _ := hgb
              clear hgb HT1 HB1 HB2 HLS HIT H1 HT HS HQ HX HI8
              go_wp2_with fail
              rw [HGE.out]
              clear HGE
              suffices H16 : ∀ W, W.heap[gb]? = some (.cells #[.int .i64 x.alg, .int .i64 x.id, .string x.fix, .int .i64 x.seals, .int .i64 x.ahead, .int .i64 x.most, .int .i64 x.res, .bool x.ret, .string x.key, .int .i64 x.pos, .int .i64 x.ctr] 113 (0, 0)) → SlT w W B g gs gc num fl (.slice (some ⟨gh, 0, none⟩) hs.length cap) hs S R → Code.wp Tryz.prog _ _ _ W from H16 _ HBX.out HSL.out
              clear HBX HSL
              intro W X0 HSL0
              have HSL : Hid _ := HSL0
              clear HSL0
              refine wp_region_held_drew (S := fun W' => W'.heap[gb]? = some (.cells #[.int .i64 x.alg, .int .i64 x.id, .string x.fix, .int .i64 x.seals, .int .i64 x.ahead, .int .i64 x.most, .int .i64 x.res, .bool x.ret, .string x.key, .int .i64 x.pos, .int .i64 x.ctr] 113 (0, 0))) (by kernel_rfl) X0 (fun hHeld => ?_)
              refine tp 0 _ ?r1
              refine nz ?_
              refine tk 1 ?v2 ?y2 ?r2
              case y2 => (intro W' hW; have hb := cells11 hW; obtain ⟨c0, c1, c2, c3, c4, c5, c6, c7, c8, c9, c10⟩ := hb; go_simp; try with_reducible rfl)
              refine nz ?_
              refine tp 2 _ ?r3
              refine nz ?_
              refine tk 3 ?v4 ?y4 ?r4
              case y4 => (intro W' hW; have hb := cells11 hW; obtain ⟨c0, c1, c2, c3, c4, c5, c6, c7, c8, c9, c10⟩ := hb; go_simp; try with_reducible rfl)
              refine nz ?_
              refine wpAnyH_ready (rs := [4]) (by kernel_rfl) (by simp) ?_
              refine AllReadyH.cons rfl (fun K hK => ?_) ?nil4
              case nil4 => exact AllReadyH.nil
              go_simp
              refine (HFA.out.1 _).mono ?_
              rintro e wa ⟨rfl, ba⟩
              have Xa : wa.heap[gb]? = some (.cells #[.int .i64 x.alg, .int .i64 x.id, .string x.fix, .int .i64 x.seals, .int .i64 x.ahead, .int .i64 x.most, .int .i64 x.res, .bool x.ret, .string x.key, .int .i64 x.pos, .int .i64 x.ctr] 113 (0, 0)) := by rw [ba.block gb (heap_lt X0)]; exact X0
              have HSa : Hid _ := HSL.out.drew.below ba
              go_wp2_with fail
              refine hK.out _ _ Xa (fun hHeld => ?_)
              clear hK K
              have i12 := HI12.out
              refine tp 5 _ ?r5
              refine nz ?_
              refine tp 6 _ ?r6
              refine nz ?_
              refine wpAnyH_done (by kernel_rfl) ?_ _
              clear X0 HSL i12
              rw [HNN.out]
              obtain ⟨c0, c1, c2, c3, c4, c5, c6, c7, c8, c9, c10⟩ := cells11 Xa
              have fz := frozen_of_row _ _ 10 _ _ Xa
              have Xb := box_ctr Xa (.int .i64 ((x.ctr : Int) + 1))
              have HSb : Hid _ := HSa.out.set gb 10 (.int .i64 ((x.ctr : Int) + 1)) HGB.out
              clear Xa HSa ba
              go_wp2_with fail
              suffices H18 : ∀ W, W.heap[gb]? = some (.cells #[.int .i64 x.alg, .int .i64 x.id, .string x.fix, .int .i64 x.seals, .int .i64 x.ahead, .int .i64 x.most, .int .i64 x.res, .bool x.ret, .string x.key, .int .i64 x.pos, .int .i64 ((x.ctr : Int) + 1)] 113 (0, 0)) → SlT w W B g gs gc num fl (.slice (some ⟨gh, 0, none⟩) hs.length cap) hs S R → Code.wp Tryz.prog _ _ _ W from H18 _ Xb HSb.out
              clear Xb HSb c0 c1 c2 c3 c4 c5 c6 c7 c8 c9 c10 fz
              intro W X0 HSL0
              have X1 : W.drew.cell? ⟨g, 3, none⟩ = some (.slice (some ⟨gh, 0, none⟩) hs.length cap) ∧ W.drew.heap[gb]? = some (.cells #[.int .i64 x.alg, .int .i64 x.id, .string x.fix, .int .i64 x.seals, .int .i64 x.ahead, .int .i64 x.most, .int .i64 x.res, .bool x.ret, .string x.key, .int .i64 x.pos, .int .i64 ((x.ctr : Int) + 1)] 113 (0, 0)) := ⟨(cells4' HSL0.t.r).2.2.2, X0⟩
              obtain ⟨cur', hst, HF18, X2⟩ := HSL0.put (y := { x with res := x.res }) HK.out hkl HGB.out X0
              try dsimp only at hst X2
              have HFN : Hid _ := HF18
              have hst2 : Sem.run Tryz.prog (StT 113 (.pointer (some ⟨gh, k * 11, none⟩)) (.agg #[.int .i64 x.alg, .int .i64 x.id, .string x.fix, .int .i64 x.seals, .int .i64 x.ahead, .int .i64 x.most, .int .i64 x.res, .bool x.ret, .string x.key, .int .i64 x.pos, .int .i64 ((x.ctr : Int) + 1)])) W.drew = .ok () (W.drew.setRow gh cur') := hst
              have X2' : (W.drew.setRow gh cur').cell? ⟨g, 3, none⟩ = some (.slice (some ⟨gh, 0, none⟩) hs.length cap) ∧ (W.drew.setRow gh cur').heap[gb]? = some (.cells #[.int .i64 x.alg, .int .i64 x.id, .string x.fix, .int .i64 x.seals, .int .i64 x.ahead, .int .i64 x.most, .int .i64 x.res, .bool x.ret, .string x.key, .int .i64 x.pos, .int .i64 ((x.ctr : Int) + 1)] 113 (0, 0)) := X2
              clear HF18 HSL0 X0 hst X2
              refine wp_region_held_drew (S := fun W' => W'.cell? ⟨g, 3, none⟩ = some (.slice (some ⟨gh, 0, none⟩) hs.length cap) ∧ W'.heap[gb]? = some (.cells #[.int .i64 x.alg, .int .i64 x.id, .string x.fix, .int .i64 x.seals, .int .i64 x.ahead, .int .i64 x.most, .int .i64 x.res, .bool x.ret, .string x.key, .int .i64 x.pos, .int .i64 ((x.ctr : Int) + 1)] 113 (0, 0))) (by kernel_rfl) X1 (fun hHeld => ?_)
              refine tp 0 _ ?r7
              refine nz ?_
              refine tp 1 _ ?r8
              refine nz ?_
              refine tp 2 _ ?r9
              refine nz ?_
              refine tk 3 ?v10 ?y10 ?r10
              case y10 => (intro W' hW; have a3 := hW.1; go_simp; try with_reducible rfl)
              refine nz ?_
              refine tp 4 _ ?r11
              refine nz ?_
              refine tk 5 ?v12 ?y12 ?r12
              case y12 => (intro W' hW; have hb : blk W' gb = _ := hW.2; go_simp; try with_reducible rfl)
              refine nz ?_
              refine tp 6 _ ?r13
              refine nz ?_
              refine wpAnyH_ready (rs := [7]) (by kernel_rfl) (by simp) ?_
              refine AllReadyH.cons rfl (fun K hK => ?_) ?nil7
              case nil7 => exact AllReadyH.nil
              go_wp2_with fail
              refine hK.out _ _ X2' (fun hHeld => ?_)
              clear hK K
              refine wpAnyH_done (by kernel_rfl) ?_ _
              have X3 := X2'.2
              clear X1 X2' hst2
              generalize W.drew.setRow gh cur' = W3 at *
              go_wp2_with fail
              refine (HFA.out.2.1 _).mono ?_
              rintro e w4 ⟨rfl, b4⟩
              have X4 : w4.heap[gb]? = some (.cells #[.int .i64 x.alg, .int .i64 x.id, .string x.fix, .int .i64 x.seals, .int .i64 x.ahead, .int .i64 x.most, .int .i64 x.res, .bool x.ret, .string x.key, .int .i64 x.pos, .int .i64 ((x.ctr : Int) + 1)] 113 (0, 0)) := by rw [b4.block gb (heap_lt X3)]; exact X3
              have HF4 : Hid _ := RPs.below HFN.out b4
              clear HFN X3 b4
              go_wp2_with fail
              suffices H20 : ∀ W, W.heap[gb]? = some (.cells #[.int .i64 x.alg, .int .i64 x.id, .string x.fix, .int .i64 x.seals, .int .i64 x.ahead, .int .i64 x.most, .int .i64 x.res, .bool x.ret, .string x.key, .int .i64 x.pos, .int .i64 ((x.ctr : Int) + 1)] 113 (0, 0)) → RPs w W B g gs gc num (.slice (some ⟨gh, 0, none⟩) hs.length cap) R gp S (setD H x.pos ⟨(H x.pos).c, (H x.pos).ctr + 1⟩) → Code.wp Tryz.prog _ _ _ W from H20 _ X4 HF4.out
              clear X4 HF4
              intro W X0 HFI
              have HF0 : Hid _ := HFI
              clear HFI
              have hm := mk8 p.size (by have := HP0.out; omega)
              have hcv : (convert 134 9 (.slice (some ⟨W.heap.size, 0, none⟩) p.size p.size)).run Tryz.prog (W.alloc (.cells (arr p.size z8) 5)).drew = .ok (.string (zs p.size)) (W.alloc (.cells (arr p.size z8) 5)).drew := convZ p.size W.drew
              have X6 : (W.alloc (.cells (arr p.size z8) 5)).drew.heap[gb]? = some (.cells #[.int .i64 x.alg, .int .i64 x.id, .string x.fix, .int .i64 x.seals, .int .i64 x.ahead, .int .i64 x.most, .int .i64 x.res, .bool x.ret, .string x.key, .int .i64 x.pos, .int .i64 ((x.ctr : Int) + 1)] 113 (0, 0)) := keep_alloc (w := W) _ X0
              have HF6 : Hid (RPs w (W.alloc (.cells (arr p.size z8) 5)).drew B g gs gc num (.slice (some ⟨gh, 0, none⟩) hs.length cap) R gp S (setD H x.pos ⟨(H x.pos).c, (H x.pos).ctr + 1⟩)) := RPs.drew (RPs.alloc HF0.out _)
              refine wp_region_held_drew (S := fun W' => W'.heap[gb]? = some (.cells #[.int .i64 x.alg, .int .i64 x.id, .string x.fix, .int .i64 x.seals, .int .i64 x.ahead, .int .i64 x.most, .int .i64 x.res, .bool x.ret, .string x.key, .int .i64 x.pos, .int .i64 ((x.ctr : Int) + 1)] 113 (0, 0))) (by kernel_rfl) X0 (fun hHeld => ?_)
              refine tp 0 _ ?r14
              refine nz ?_
              refine tk 1 ?v15 ?y15 ?r15
              case y15 => (intro W' hW; have hb := cells11 hW; obtain ⟨c0, c1, c2, c3, c4, c5, c6, c7, c8, c9, c10⟩ := hb; go_simp; try with_reducible rfl)
              refine nz ?_
              refine tp 2 _ ?r16
              refine nz ?_
              refine tp 3 _ ?r17
              refine nz ?_
              refine tp 4 _ ?r18
              refine nz ?_
              refine tp 5 _ ?r19
              refine nz ?_
              refine tp 8 _ ?r20
              refine nz ?_
              refine wpAnyH_ready (rs := [6]) (by kernel_rfl) (by simp) ?_
              refine AllReadyH.cons rfl (fun K hK => ?_) ?nil6
              case nil6 => exact AllReadyH.nil
              go_simp
              refine hK.out _ _ X6 (fun hHeld => ?_)
              clear hK K
              refine wpAnyH_ready (rs := [7]) (by kernel_rfl) (by simp) ?_
              refine AllReadyH.cons rfl (fun K hK => ?_) ?nil7
              case nil7 => exact AllReadyH.nil
              go_simp
              refine hK.out _ _ X6 (fun hHeld => ?_)
              clear hK K
              clear hm hcv
              refine tp 9 _ ?r21
              refine nz ?_
              refine wpAnyH_ready (rs := [10]) (by kernel_rfl) (by simp) ?_
              refine AllReadyH.cons rfl (fun K hK => ?_) ?nil10
              case nil10 => exact AllReadyH.nil
              go_simp
              refine (HFA.out.2.2.1 _).mono ?_
              rintro e wb ⟨rfl, bb⟩
              have X7 : wb.heap[gb]? = some (.cells #[.int .i64 x.alg, .int .i64 x.id, .string x.fix, .int .i64 x.seals, .int .i64 x.ahead, .int .i64 x.most, .int .i64 x.res, .bool x.ret, .string x.key, .int .i64 x.pos, .int .i64 ((x.ctr : Int) + 1)] 113 (0, 0)) := by rw [bb.block gb (heap_lt X6)]; exact X6
              have HF7 : Hid _ := RPs.below HF6.out bb
              go_wp2_with fail
              refine hK.out _ _ X7 (fun hHeld => ?_)
              clear hK K
              refine tp 11 _ ?r22
              refine nz ?_
              refine tp 12 _ ?r23
              refine nz ?_
              refine tp 13 _ ?r24
              refine nz ?_
              refine tp 14 _ ?r25
              refine nz ?_
              refine tp 15 _ ?r26
              refine nz ?_
              refine wpAnyH_done (by kernel_rfl) ?_ _
              clear X0 X6 HF0 HF6 bb
              obtain ⟨c0, c1, c2, c3, c4, c5, c6, c7, c8, c9, c10⟩ := cells11 X7
              have i20 := HI20.out
              have hd := HHD.out
              have hdz := HHZ.out
              have i21 := HI21.out
              go_wp2_with fail
              refine (HFA.out.2.2.2 _).mono ?_
              rintro e w8 ⟨rfl, b8⟩
              have HF8 : Hid _ := RPs.below HF7.out b8
              clear HF7 b8 c0 c1 c2 c3 c4 c5 c6 c7 c8 c9 c10 X7
              have i22 := HI22.out
              go_wp2
              go_ret2
              rw [HE.out.1, HE.out.2.1, HE.out.2.2.1, HE.out.2.2.2]
              exact ⟨by rw [← HRC.out]; rfl, HF8.out⟩
            · have hr' : (x.res : Int) ≤ (x.ctr : Int) := by
                have := HEQ.out.2.2.1
                have := HEQ.out.2.2.2
                omega
              have HHC : Hid _ := hc
              clear hc
              have hre1 := HX.out.2.1.reserve
              have HRE : Hid _ := hre1
              clear hre1
              by_cases hgt : (x.seals : Int) < (x.res : Int) + (x.ahead : Int)
              · have HMN : Hid (min (x.res + x.ahead) x.seals = x.seals) := by show min _ _ = _; omega
                have hry : HRel { x with res := x.seals } ⟨(H x.pos).c.reserving, (H x.pos).ctr⟩ := by
                  have := HRE.out
                  rw [HMN.out] at this
                  exact this
                have B3 := (Below.refl w1.heap.size w1).alloc (Nat.le_refl _) (.cells #[.int .i64 x.alg, .int .i64 x.id, .string x.fix, .int .i64 x.seals, .int .i64 x.ahead, .int .i64 x.most, .int .i64 x.seals, .bool x.ret, .string x.key, .int .i64 x.pos, .int .i64 x.ctr] 113)
                have hly : Calls Tryz.prog 64 #[.pointer (some ⟨g, 0, none⟩), .agg #[.int .i64 x.alg, .int .i64 x.id, .string x.fix, .int .i64 x.seals, .int .i64 x.ahead, .int .i64 x.most, .int .i64 x.seals, .bool x.ret, .string x.key, .int .i64 x.pos, .int .i64 x.ctr]] (w1.alloc (.cells #[.int .i64 x.alg, .int .i64 x.id, .string x.fix, .int .i64 x.seals, .int .i64 x.ahead, .int .i64 x.most, .int .i64 x.seals, .bool x.ret, .string x.key, .int .i64 x.pos, .int .i64 x.ctr] 113)) _ := rlay_any B g gs gc num fl _ hs S R { x with res := x.seals } _ hry (show x.pos < 8 from HI8.out) HWR.out _ (HT1.out.1.below B3) (HT1.out.2.below B3)
                have HLY : Hid _ := hly
                have HRY : Hid _ := hry
                have HR3 : Hid ((w1.alloc (.cells #[.int .i64 x.alg, .int .i64 x.id, .string x.fix, .int .i64 x.seals, .int .i64 x.ahead, .int .i64 x.most, .int .i64 x.seals, .bool x.ret, .string x.key, .int .i64 x.pos, .int .i64 x.ctr] 113)).heap[w1.heap.size]? = some (.cells #[.int .i64 x.alg, .int .i64 x.id, .string x.fix, .int .i64 x.seals, .int .i64 x.ahead, .int .i64 x.most, .int .i64 x.seals, .bool x.ret, .string x.key, .int .i64 x.pos, .int .i64 x.ctr] 113 (0, 0))) := heap_of_new _ _ _ rfl
                clear hly hry B3
                go_wp2_with fail
                refine Calls.mono HLY.out ?_
                rintro e w3 ⟨⟨hl, rfl, t3⟩ | ⟨hl, rfl, t3⟩, s3, f3⟩
                · rcases HHC.out with ⟨_, f1, f2, f3', f4⟩ | ⟨hl', _⟩
                  · have HE : Hid _ := And.intro f1 (And.intro f2 (And.intro f3' f4))
                    clear f1 f2 f3' f4
                    have hq : RPs w w3 B g gs gc num (.slice (some ⟨gh, 0, none⟩) hs.length cap) R gp { wroteM S x.pos (cellT (H x.pos).c.reserving) with tab := none } H := by
                      have f5 : Fr [g, gs, gc] w w3 := ((Fr.of_below _ HB1.out (Nat.le_refl _)).alloc _).trans f3
                      have s4 : StoR w3 gs gc (wroteM S x.pos (cellT (H x.pos).c.reserving)) { R with writes := R.writes + 1 } := s3
                      exact RPs.down t3 s4 HR.out f5
                    have HQ2 : Hid _ := hq
                    clear hq t3 s3 f3 HX HT1
                    go_wp2
                    go_ret2
                    rw [HE.out.1, HE.out.2.1, HE.out.2.2.1, HE.out.2.2.2]
                    exact ⟨rfl, HQ2.out⟩
                  · exact absurd hl hl'
                · rcases HHC.out with ⟨hl', _⟩ | ⟨_, f1, f2, f3', f4⟩
                  · exact absurd hl' hl
                  have HE : Hid (s = sealR (H x.pos) m p ∧ r = 0 ∧ S' = wroteM S x.pos (cellT (H x.pos).c.reserving) ∧ H' = setD H x.pos ⟨(H x.pos).c.reserving, (H x.pos).ctr + 1⟩) := ⟨f1, f2, f3', by rw [f4, bump_upd]⟩
                  have hcr : (H x.pos).ctr < (H x.pos).c.reserving.res := by
                    have := HRY.out.res
                    have e1 := HX.out.2.1.ctr
                    have e2 := HEQ.out.2.2.2
                    dsimp only at this
                    obtain ⟨_, ⟨q3, _⟩, _⟩ := HX.out.2.1.ok.cfg
                    have e3 := HX.out.2.1.ahead
                    omega
                  have HK : Hid (SlK hs H k x { x with res := x.seals } ⟨(H x.pos).c.reserving, (H x.pos).ctr + 1⟩ num fl R { R with writes := R.writes + 1 } gp (wroteM S x.pos (cellT (H x.pos).c.reserving))) := ⟨HX.out.1, rfl, HRY.out.bump hcr, rfl, HR.out, by rw [wrote_tab]; exact HO.out, rfl, rfl, Nat.le_refl _⟩
                  obtain ⟨nn, hnn⟩ : ∃ nn, x.fix ++ numT x.ctr 8 = nn := ⟨_, rfl⟩
                  have hfx : x.fix.size = 4 := by rw [HX.out.2.1.fix]; exact HX.out.2.1.ok.fix
                  have hnz : nn.size = 12 := by rw [← hnn, ByteArray.size_append, hfx, numT_size]
                  obtain ⟨E, hE⟩ : ∃ E, encT x.alg x.id nn (zs p.size) (numT 0 16) = E := ⟨_, rfl⟩
                  obtain ⟨HD, hHD⟩ : ∃ HD, headT x.alg x.id nn p = HD := ⟨_, rfl⟩
                  obtain ⟨SE, hSE⟩ : ∃ SE, sealT x.key nn (HD ++ m) p = SE := ⟨_, rfl⟩
                  have hkz : KeyLen x.key.size := by
                    rw [HX.out.2.1.key HX.out.2.2, HX.out.2.1.ok.key, if_pos HX.out.2.2]
                    have := HX.out.2.1.ok.alg
                    unfold KeyLen
                    omega
                  have hal := HX.out.2.1.ok.alg
                  rw [← HX.out.2.1.alg] at hal
                  have hids := HX.out.2.1.ok.id
                  rw [← HX.out.2.1.id] at hids
                  have hEz : E.size = 36 + p.size := by rw [← hE, encT_len, zs_size]
                  have hEh : E.extract 0 20 = HD := by rw [← hE, enc_head _ _ _ _ _ hnz (by rw [zs_size]; exact HP0.out) (numT_size _ _), ← hHD]; exact head_like _ _ _ _ _ (zs_size _)
                  have hHz : HD.size = 20 := by rw [← hHD, headT_size]
                  have hSz : SE.size = p.size + 16 := by rw [← hSE]; unfold sealT; rw [ByteArray.size_append, maskT_size, str_size]
                  have hctr : x.ctr ≤ 65535 := by omega
                  have fa1 : ∀ w, Calls Tryz.prog 72 #[.int .i64 x.ctr, .int .i64 8] w fun e w' => e = .returned (.string (numT x.ctr 8)) ∧ Below w.heap.size w w' := fun w => number_ref x.ctr 8 (by omega) (by omega) w
                  have fa2 : ∀ w, Calls Tryz.prog 72 #[.int .i64 0, .int .i64 16] w fun e w' => e = .returned (.string (numT 0 16)) ∧ Below w.heap.size w w' := fun w => number_ref 0 16 (by omega) (by omega) w
                  have fa3 : ∀ w, Calls Tryz.prog 46 #[.agg #[.int .i64 x.alg, .int .i64 x.id, .string nn, .string (zs p.size), .string (numT 0 16)]] w fun e w' => e = .returned (.tuple #[.string E, .int .i64 0]) ∧ Below w.heap.size w w' := fun w => by
                    rw [← hE]
                    exact refEncode_yes x.alg x.id nn (zs p.size) (numT 0 16) hal.1 hal.2 hids hnz (by rw [zs_size]; exact HP0.out) (numT_size _ _) w
                  have fa4 : ∀ w, Calls Tryz.prog 42 #[.string x.key, .string nn, .string (HD ++ m), .string p] w fun e w' => e = .returned (.tuple #[.string SE, .int .i64 0]) ∧ Below w.heap.size w w' := fun w => by
                    rw [← hSE]
                    exact rSeal_ok x.key nn (HD ++ m) p hkz (by unfold NonceLen; omega) (by rw [ByteArray.size_append, hHz]; have := HM0.out; omega) HP0.out w
                  have HFA : Hid _ := And.intro fa1 (And.intro fa2 (And.intro fa3 fa4))
                  have HNN : Hid _ := hnn
                  have HI12 : Hid (¬ (9223372036854775807 < x.fix.size + (numT x.ctr 8).size)) := by show ¬ _; rw [numT_size]; omega
                  have HI20 : Hid ((20 : Int) ≤ (E.size : Int)) := by show (20 : Int) ≤ _; omega
                  have HHD : Hid _ := hEh
                  have HHZ : Hid _ := hHz
                  have HI21 : Hid (¬ (9223372036854775807 < 20 + m.size)) := by show ¬ _; have := HM0.out; omega
                  have HI22 : Hid (¬ (9223372036854775807 < 20 + SE.size)) := by show ¬ _; have := HP0.out; omega
                  have HRC : Hid (HD ++ SE = sealR (H x.pos) m p) := by
                    show HD ++ SE = _
                    have hx := HX.out.2.1
                    have hn2 : hnonT (H x.pos) = nn := by unfold hnonT; rw [← hnn, hx.fix, hx.ctr]
                    have := seal_rec (H x.pos) m p hx.ok.fix HP0.out
                    rw [hn2, ← hx.alg, ← hx.id, ← hx.key HX.out.2.2, hHD, hSE] at this
                    exact this
                  clear fa1 fa2 fa3 fa4 hnn hfx hnz hE hHD hSE hkz hal hids hEz hEh hHz hSz hctr
                  have y3 := f3.size
                  obtain ⟨gb, hgb⟩ : ∃ gb, w1.heap.size = gb := ⟨_, rfl⟩
                  have lg := HT1.out.1.lt
                  have lgs := Row.lt HT1.out.2.r
                  have lgc := Row.lt HT1.out.2.c
                  have HBX : Hid (w3.heap[gb]? = some (.cells #[.int .i64 x.alg, .int .i64 x.id, .string x.fix, .int .i64 x.seals, .int .i64 x.ahead, .int .i64 x.most, .int .i64 x.seals, .bool x.ret, .string x.key, .int .i64 x.pos, .int .i64 x.ctr] 113 (0, 0))) := by rw [← hgb]; exact keepRow f3 HR3.out (by simp; omega)
                  have HSL : Hid (SlT w w3 B g gs gc num fl (.slice (some ⟨gh, 0, none⟩) hs.length cap) hs (wroteM S x.pos (cellT (H x.pos).c.reserving)) { R with writes := R.writes + 1 }) := ⟨t3, s3, ((Fr.of_below _ HB1.out (Nat.le_refl _)).alloc _).trans f3, HLS.out⟩
                  rw [hgb] at HGB
                  have HGE : Hid _ := hgb
                  clear f1 f2 f3' f4 t3 s3 f3 y3 lg lgs lgc hgb hcr HR HO HEQ HC HM HT1 HB1 HB2 HLS HIT H1 HT HS HQ HX HI8 HRE HMN HRY HR3 HHC HLY
                  go_wp2_with fail
                  rw [HGE.out]
                  clear HGE
                  suffices H16 : ∀ W, W.heap[gb]? = some (.cells #[.int .i64 x.alg, .int .i64 x.id, .string x.fix, .int .i64 x.seals, .int .i64 x.ahead, .int .i64 x.most, .int .i64 x.seals, .bool x.ret, .string x.key, .int .i64 x.pos, .int .i64 x.ctr] 113 (0, 0)) → SlT w W B g gs gc num fl (.slice (some ⟨gh, 0, none⟩) hs.length cap) hs (wroteM S x.pos (cellT (H x.pos).c.reserving)) { R with writes := R.writes + 1 } → Code.wp Tryz.prog _ _ _ W from H16 _ HBX.out HSL.out
                  clear HBX HSL
                  intro W X0 HSL0
                  have HSL : Hid _ := HSL0
                  clear HSL0
                  refine wp_region_held_drew (S := fun W' => W'.heap[gb]? = some (.cells #[.int .i64 x.alg, .int .i64 x.id, .string x.fix, .int .i64 x.seals, .int .i64 x.ahead, .int .i64 x.most, .int .i64 x.seals, .bool x.ret, .string x.key, .int .i64 x.pos, .int .i64 x.ctr] 113 (0, 0))) (by kernel_rfl) X0 (fun hHeld => ?_)
                  refine tp 0 _ ?r27
                  refine nz ?_
                  refine tk 1 ?v28 ?y28 ?r28
                  case y28 => (intro W' hW; have hb := cells11 hW; obtain ⟨c0, c1, c2, c3, c4, c5, c6, c7, c8, c9, c10⟩ := hb; go_simp; try with_reducible rfl)
                  refine nz ?_
                  refine tp 2 _ ?r29
                  refine nz ?_
                  refine tk 3 ?v30 ?y30 ?r30
                  case y30 => (intro W' hW; have hb := cells11 hW; obtain ⟨c0, c1, c2, c3, c4, c5, c6, c7, c8, c9, c10⟩ := hb; go_simp; try with_reducible rfl)
                  refine nz ?_
                  refine wpAnyH_ready (rs := [4]) (by kernel_rfl) (by simp) ?_
                  refine AllReadyH.cons rfl (fun K hK => ?_) ?nil4
                  case nil4 => exact AllReadyH.nil
                  go_simp
                  refine (HFA.out.1 _).mono ?_
                  rintro e wa ⟨rfl, ba⟩
                  have Xa : wa.heap[gb]? = some (.cells #[.int .i64 x.alg, .int .i64 x.id, .string x.fix, .int .i64 x.seals, .int .i64 x.ahead, .int .i64 x.most, .int .i64 x.seals, .bool x.ret, .string x.key, .int .i64 x.pos, .int .i64 x.ctr] 113 (0, 0)) := by rw [ba.block gb (heap_lt X0)]; exact X0
                  have HSa : Hid _ := HSL.out.drew.below ba
                  go_wp2_with fail
                  refine hK.out _ _ Xa (fun hHeld => ?_)
                  clear hK K
                  have i12 := HI12.out
                  refine tp 5 _ ?r31
                  refine nz ?_
                  refine tp 6 _ ?r32
                  refine nz ?_
                  refine wpAnyH_done (by kernel_rfl) ?_ _
                  clear X0 HSL i12
                  rw [HNN.out]
                  obtain ⟨c0, c1, c2, c3, c4, c5, c6, c7, c8, c9, c10⟩ := cells11 Xa
                  have fz := frozen_of_row _ _ 10 _ _ Xa
                  have Xb := box_ctr Xa (.int .i64 ((x.ctr : Int) + 1))
                  have HSb : Hid _ := HSa.out.set gb 10 (.int .i64 ((x.ctr : Int) + 1)) HGB.out
                  clear Xa HSa ba
                  go_wp2_with fail
                  suffices H18 : ∀ W, W.heap[gb]? = some (.cells #[.int .i64 x.alg, .int .i64 x.id, .string x.fix, .int .i64 x.seals, .int .i64 x.ahead, .int .i64 x.most, .int .i64 x.seals, .bool x.ret, .string x.key, .int .i64 x.pos, .int .i64 ((x.ctr : Int) + 1)] 113 (0, 0)) → SlT w W B g gs gc num fl (.slice (some ⟨gh, 0, none⟩) hs.length cap) hs (wroteM S x.pos (cellT (H x.pos).c.reserving)) { R with writes := R.writes + 1 } → Code.wp Tryz.prog _ _ _ W from H18 _ Xb HSb.out
                  clear Xb HSb c0 c1 c2 c3 c4 c5 c6 c7 c8 c9 c10 fz
                  intro W X0 HSL0
                  have X1 : W.drew.cell? ⟨g, 3, none⟩ = some (.slice (some ⟨gh, 0, none⟩) hs.length cap) ∧ W.drew.heap[gb]? = some (.cells #[.int .i64 x.alg, .int .i64 x.id, .string x.fix, .int .i64 x.seals, .int .i64 x.ahead, .int .i64 x.most, .int .i64 x.seals, .bool x.ret, .string x.key, .int .i64 x.pos, .int .i64 ((x.ctr : Int) + 1)] 113 (0, 0)) := ⟨(cells4' HSL0.t.r).2.2.2, X0⟩
                  obtain ⟨cur', hst, HF18, X2⟩ := HSL0.put (y := { x with res := x.seals }) HK.out hkl HGB.out X0
                  try dsimp only at hst X2
                  have HFN : Hid _ := HF18
                  have hst2 : Sem.run Tryz.prog (StT 113 (.pointer (some ⟨gh, k * 11, none⟩)) (.agg #[.int .i64 x.alg, .int .i64 x.id, .string x.fix, .int .i64 x.seals, .int .i64 x.ahead, .int .i64 x.most, .int .i64 x.seals, .bool x.ret, .string x.key, .int .i64 x.pos, .int .i64 ((x.ctr : Int) + 1)])) W.drew = .ok () (W.drew.setRow gh cur') := hst
                  have X2' : (W.drew.setRow gh cur').cell? ⟨g, 3, none⟩ = some (.slice (some ⟨gh, 0, none⟩) hs.length cap) ∧ (W.drew.setRow gh cur').heap[gb]? = some (.cells #[.int .i64 x.alg, .int .i64 x.id, .string x.fix, .int .i64 x.seals, .int .i64 x.ahead, .int .i64 x.most, .int .i64 x.seals, .bool x.ret, .string x.key, .int .i64 x.pos, .int .i64 ((x.ctr : Int) + 1)] 113 (0, 0)) := X2
                  clear HF18 HSL0 X0 hst X2
                  refine wp_region_held_drew (S := fun W' => W'.cell? ⟨g, 3, none⟩ = some (.slice (some ⟨gh, 0, none⟩) hs.length cap) ∧ W'.heap[gb]? = some (.cells #[.int .i64 x.alg, .int .i64 x.id, .string x.fix, .int .i64 x.seals, .int .i64 x.ahead, .int .i64 x.most, .int .i64 x.seals, .bool x.ret, .string x.key, .int .i64 x.pos, .int .i64 ((x.ctr : Int) + 1)] 113 (0, 0))) (by kernel_rfl) X1 (fun hHeld => ?_)
                  refine tp 0 _ ?r33
                  refine nz ?_
                  refine tp 1 _ ?r34
                  refine nz ?_
                  refine tp 2 _ ?r35
                  refine nz ?_
                  refine tk 3 ?v36 ?y36 ?r36
                  case y36 => (intro W' hW; have a3 := hW.1; go_simp; try with_reducible rfl)
                  refine nz ?_
                  refine tp 4 _ ?r37
                  refine nz ?_
                  refine tk 5 ?v38 ?y38 ?r38
                  case y38 => (intro W' hW; have hb : blk W' gb = _ := hW.2; go_simp; try with_reducible rfl)
                  refine nz ?_
                  refine tp 6 _ ?r39
                  refine nz ?_
                  refine wpAnyH_ready (rs := [7]) (by kernel_rfl) (by simp) ?_
                  refine AllReadyH.cons rfl (fun K hK => ?_) ?nil7
                  case nil7 => exact AllReadyH.nil
                  go_wp2_with fail
                  refine hK.out _ _ X2' (fun hHeld => ?_)
                  clear hK K
                  refine wpAnyH_done (by kernel_rfl) ?_ _
                  have X3 := X2'.2
                  clear X1 X2' hst2
                  generalize W.drew.setRow gh cur' = W3 at *
                  go_wp2_with fail
                  refine (HFA.out.2.1 _).mono ?_
                  rintro e w4 ⟨rfl, b4⟩
                  have X4 : w4.heap[gb]? = some (.cells #[.int .i64 x.alg, .int .i64 x.id, .string x.fix, .int .i64 x.seals, .int .i64 x.ahead, .int .i64 x.most, .int .i64 x.seals, .bool x.ret, .string x.key, .int .i64 x.pos, .int .i64 ((x.ctr : Int) + 1)] 113 (0, 0)) := by rw [b4.block gb (heap_lt X3)]; exact X3
                  have HF4 : Hid _ := RPs.below HFN.out b4
                  clear HFN X3 b4
                  go_wp2_with fail
                  suffices H20 : ∀ W, W.heap[gb]? = some (.cells #[.int .i64 x.alg, .int .i64 x.id, .string x.fix, .int .i64 x.seals, .int .i64 x.ahead, .int .i64 x.most, .int .i64 x.seals, .bool x.ret, .string x.key, .int .i64 x.pos, .int .i64 ((x.ctr : Int) + 1)] 113 (0, 0)) → RPs w W B g gs gc num (.slice (some ⟨gh, 0, none⟩) hs.length cap) R gp (wroteM S x.pos (cellT (H x.pos).c.reserving)) (setD H x.pos ⟨(H x.pos).c.reserving, (H x.pos).ctr + 1⟩) → Code.wp Tryz.prog _ _ _ W from H20 _ X4 HF4.out
                  clear X4 HF4
                  intro W X0 HFI
                  have HF0 : Hid _ := HFI
                  clear HFI
                  have hm := mk8 p.size (by have := HP0.out; omega)
                  have hcv : (convert 134 9 (.slice (some ⟨W.heap.size, 0, none⟩) p.size p.size)).run Tryz.prog (W.alloc (.cells (arr p.size z8) 5)).drew = .ok (.string (zs p.size)) (W.alloc (.cells (arr p.size z8) 5)).drew := convZ p.size W.drew
                  have X6 : (W.alloc (.cells (arr p.size z8) 5)).drew.heap[gb]? = some (.cells #[.int .i64 x.alg, .int .i64 x.id, .string x.fix, .int .i64 x.seals, .int .i64 x.ahead, .int .i64 x.most, .int .i64 x.seals, .bool x.ret, .string x.key, .int .i64 x.pos, .int .i64 ((x.ctr : Int) + 1)] 113 (0, 0)) := keep_alloc (w := W) _ X0
                  have HF6 : Hid (RPs w (W.alloc (.cells (arr p.size z8) 5)).drew B g gs gc num (.slice (some ⟨gh, 0, none⟩) hs.length cap) R gp (wroteM S x.pos (cellT (H x.pos).c.reserving)) (setD H x.pos ⟨(H x.pos).c.reserving, (H x.pos).ctr + 1⟩)) := RPs.drew (RPs.alloc HF0.out _)
                  refine wp_region_held_drew (S := fun W' => W'.heap[gb]? = some (.cells #[.int .i64 x.alg, .int .i64 x.id, .string x.fix, .int .i64 x.seals, .int .i64 x.ahead, .int .i64 x.most, .int .i64 x.seals, .bool x.ret, .string x.key, .int .i64 x.pos, .int .i64 ((x.ctr : Int) + 1)] 113 (0, 0))) (by kernel_rfl) X0 (fun hHeld => ?_)
                  refine tp 0 _ ?r40
                  refine nz ?_
                  refine tk 1 ?v41 ?y41 ?r41
                  case y41 => (intro W' hW; have hb := cells11 hW; obtain ⟨c0, c1, c2, c3, c4, c5, c6, c7, c8, c9, c10⟩ := hb; go_simp; try with_reducible rfl)
                  refine nz ?_
                  refine tp 2 _ ?r42
                  refine nz ?_
                  refine tp 3 _ ?r43
                  refine nz ?_
                  refine tp 4 _ ?r44
                  refine nz ?_
                  refine tp 5 _ ?r45
                  refine nz ?_
                  refine tp 8 _ ?r46
                  refine nz ?_
                  refine wpAnyH_ready (rs := [6]) (by kernel_rfl) (by simp) ?_
                  refine AllReadyH.cons rfl (fun K hK => ?_) ?nil6
                  case nil6 => exact AllReadyH.nil
                  go_simp
                  refine hK.out _ _ X6 (fun hHeld => ?_)
                  clear hK K
                  refine wpAnyH_ready (rs := [7]) (by kernel_rfl) (by simp) ?_
                  refine AllReadyH.cons rfl (fun K hK => ?_) ?nil7
                  case nil7 => exact AllReadyH.nil
                  go_simp
                  refine hK.out _ _ X6 (fun hHeld => ?_)
                  clear hK K
                  clear hm hcv
                  refine tp 9 _ ?r47
                  refine nz ?_
                  refine wpAnyH_ready (rs := [10]) (by kernel_rfl) (by simp) ?_
                  refine AllReadyH.cons rfl (fun K hK => ?_) ?nil10
                  case nil10 => exact AllReadyH.nil
                  go_simp
                  refine (HFA.out.2.2.1 _).mono ?_
                  rintro e wb ⟨rfl, bb⟩
                  have X7 : wb.heap[gb]? = some (.cells #[.int .i64 x.alg, .int .i64 x.id, .string x.fix, .int .i64 x.seals, .int .i64 x.ahead, .int .i64 x.most, .int .i64 x.seals, .bool x.ret, .string x.key, .int .i64 x.pos, .int .i64 ((x.ctr : Int) + 1)] 113 (0, 0)) := by rw [bb.block gb (heap_lt X6)]; exact X6
                  have HF7 : Hid _ := RPs.below HF6.out bb
                  go_wp2_with fail
                  refine hK.out _ _ X7 (fun hHeld => ?_)
                  clear hK K
                  refine tp 11 _ ?r48
                  refine nz ?_
                  refine tp 12 _ ?r49
                  refine nz ?_
                  refine tp 13 _ ?r50
                  refine nz ?_
                  refine tp 14 _ ?r51
                  refine nz ?_
                  refine tp 15 _ ?r52
                  refine nz ?_
                  refine wpAnyH_done (by kernel_rfl) ?_ _
                  clear X0 X6 HF0 HF6 bb
                  obtain ⟨c0, c1, c2, c3, c4, c5, c6, c7, c8, c9, c10⟩ := cells11 X7
                  have i20 := HI20.out
                  have hd := HHD.out
                  have hdz := HHZ.out
                  have i21 := HI21.out
                  go_wp2_with fail
                  refine (HFA.out.2.2.2 _).mono ?_
                  rintro e w8 ⟨rfl, b8⟩
                  have HF8 : Hid _ := RPs.below HF7.out b8
                  clear HF7 b8 c0 c1 c2 c3 c4 c5 c6 c7 c8 c9 c10 X7
                  have i22 := HI22.out
                  go_wp2
                  go_ret2
                  rw [HE.out.1, HE.out.2.1, HE.out.2.2.1, HE.out.2.2.2]
                  exact ⟨by rw [← HRC.out]; rfl, HF8.out⟩
              · have HMN : Hid (min (x.res + x.ahead) x.seals = x.res + x.ahead) := by show min _ _ = _; omega
                have hry : HRel { x with res := (x.res + x.ahead) } ⟨(H x.pos).c.reserving, (H x.pos).ctr⟩ := by
                  have := HRE.out
                  rw [HMN.out] at this
                  exact this
                have B3 := (Below.refl w1.heap.size w1).alloc (Nat.le_refl _) (.cells #[.int .i64 x.alg, .int .i64 x.id, .string x.fix, .int .i64 x.seals, .int .i64 x.ahead, .int .i64 x.most, .int .i64 ((x.res : Int) + (x.ahead : Int)), .bool x.ret, .string x.key, .int .i64 x.pos, .int .i64 x.ctr] 113)
                have hly : Calls Tryz.prog 64 #[.pointer (some ⟨g, 0, none⟩), .agg #[.int .i64 x.alg, .int .i64 x.id, .string x.fix, .int .i64 x.seals, .int .i64 x.ahead, .int .i64 x.most, .int .i64 ((x.res : Int) + (x.ahead : Int)), .bool x.ret, .string x.key, .int .i64 x.pos, .int .i64 x.ctr]] (w1.alloc (.cells #[.int .i64 x.alg, .int .i64 x.id, .string x.fix, .int .i64 x.seals, .int .i64 x.ahead, .int .i64 x.most, .int .i64 ((x.res : Int) + (x.ahead : Int)), .bool x.ret, .string x.key, .int .i64 x.pos, .int .i64 x.ctr] 113)) _ := rlay_any B g gs gc num fl _ hs S R { x with res := (x.res + x.ahead) } _ hry (show x.pos < 8 from HI8.out) HWR.out _ (HT1.out.1.below B3) (HT1.out.2.below B3)
                have HLY : Hid _ := hly
                have HRY : Hid _ := hry
                have HR3 : Hid ((w1.alloc (.cells #[.int .i64 x.alg, .int .i64 x.id, .string x.fix, .int .i64 x.seals, .int .i64 x.ahead, .int .i64 x.most, .int .i64 ((x.res : Int) + (x.ahead : Int)), .bool x.ret, .string x.key, .int .i64 x.pos, .int .i64 x.ctr] 113)).heap[w1.heap.size]? = some (.cells #[.int .i64 x.alg, .int .i64 x.id, .string x.fix, .int .i64 x.seals, .int .i64 x.ahead, .int .i64 x.most, .int .i64 ((x.res : Int) + (x.ahead : Int)), .bool x.ret, .string x.key, .int .i64 x.pos, .int .i64 x.ctr] 113 (0, 0))) := heap_of_new _ _ _ rfl
                clear hly hry B3
                go_wp2_with fail
                refine Calls.mono HLY.out ?_
                rintro e w3 ⟨⟨hl, rfl, t3⟩ | ⟨hl, rfl, t3⟩, s3, f3⟩
                · rcases HHC.out with ⟨_, f1, f2, f3', f4⟩ | ⟨hl', _⟩
                  · have HE : Hid _ := And.intro f1 (And.intro f2 (And.intro f3' f4))
                    clear f1 f2 f3' f4
                    have hq : RPs w w3 B g gs gc num (.slice (some ⟨gh, 0, none⟩) hs.length cap) R gp { wroteM S x.pos (cellT (H x.pos).c.reserving) with tab := none } H := by
                      have f5 : Fr [g, gs, gc] w w3 := ((Fr.of_below _ HB1.out (Nat.le_refl _)).alloc _).trans f3
                      have s4 : StoR w3 gs gc (wroteM S x.pos (cellT (H x.pos).c.reserving)) { R with writes := R.writes + 1 } := s3
                      exact RPs.down t3 s4 HR.out f5
                    have HQ2 : Hid _ := hq
                    clear hq t3 s3 f3 HX HT1
                    go_wp2
                    go_ret2
                    rw [HE.out.1, HE.out.2.1, HE.out.2.2.1, HE.out.2.2.2]
                    exact ⟨rfl, HQ2.out⟩
                  · exact absurd hl hl'
                · rcases HHC.out with ⟨hl', _⟩ | ⟨_, f1, f2, f3', f4⟩
                  · exact absurd hl' hl
                  have HE : Hid (s = sealR (H x.pos) m p ∧ r = 0 ∧ S' = wroteM S x.pos (cellT (H x.pos).c.reserving) ∧ H' = setD H x.pos ⟨(H x.pos).c.reserving, (H x.pos).ctr + 1⟩) := ⟨f1, f2, f3', by rw [f4, bump_upd]⟩
                  have hcr : (H x.pos).ctr < (H x.pos).c.reserving.res := by
                    have := HRY.out.res
                    have e1 := HX.out.2.1.ctr
                    have e2 := HEQ.out.2.2.2
                    dsimp only at this
                    obtain ⟨_, ⟨q3, _⟩, _⟩ := HX.out.2.1.ok.cfg
                    have e3 := HX.out.2.1.ahead
                    omega
                  have HK : Hid (SlK hs H k x { x with res := (x.res + x.ahead) } ⟨(H x.pos).c.reserving, (H x.pos).ctr + 1⟩ num fl R { R with writes := R.writes + 1 } gp (wroteM S x.pos (cellT (H x.pos).c.reserving))) := ⟨HX.out.1, rfl, HRY.out.bump hcr, rfl, HR.out, by rw [wrote_tab]; exact HO.out, rfl, rfl, Nat.le_refl _⟩
                  obtain ⟨nn, hnn⟩ : ∃ nn, x.fix ++ numT x.ctr 8 = nn := ⟨_, rfl⟩
                  have hfx : x.fix.size = 4 := by rw [HX.out.2.1.fix]; exact HX.out.2.1.ok.fix
                  have hnz : nn.size = 12 := by rw [← hnn, ByteArray.size_append, hfx, numT_size]
                  obtain ⟨E, hE⟩ : ∃ E, encT x.alg x.id nn (zs p.size) (numT 0 16) = E := ⟨_, rfl⟩
                  obtain ⟨HD, hHD⟩ : ∃ HD, headT x.alg x.id nn p = HD := ⟨_, rfl⟩
                  obtain ⟨SE, hSE⟩ : ∃ SE, sealT x.key nn (HD ++ m) p = SE := ⟨_, rfl⟩
                  have hkz : KeyLen x.key.size := by
                    rw [HX.out.2.1.key HX.out.2.2, HX.out.2.1.ok.key, if_pos HX.out.2.2]
                    have := HX.out.2.1.ok.alg
                    unfold KeyLen
                    omega
                  have hal := HX.out.2.1.ok.alg
                  rw [← HX.out.2.1.alg] at hal
                  have hids := HX.out.2.1.ok.id
                  rw [← HX.out.2.1.id] at hids
                  have hEz : E.size = 36 + p.size := by rw [← hE, encT_len, zs_size]
                  have hEh : E.extract 0 20 = HD := by rw [← hE, enc_head _ _ _ _ _ hnz (by rw [zs_size]; exact HP0.out) (numT_size _ _), ← hHD]; exact head_like _ _ _ _ _ (zs_size _)
                  have hHz : HD.size = 20 := by rw [← hHD, headT_size]
                  have hSz : SE.size = p.size + 16 := by rw [← hSE]; unfold sealT; rw [ByteArray.size_append, maskT_size, str_size]
                  have hctr : x.ctr ≤ 65535 := by omega
                  have fa1 : ∀ w, Calls Tryz.prog 72 #[.int .i64 x.ctr, .int .i64 8] w fun e w' => e = .returned (.string (numT x.ctr 8)) ∧ Below w.heap.size w w' := fun w => number_ref x.ctr 8 (by omega) (by omega) w
                  have fa2 : ∀ w, Calls Tryz.prog 72 #[.int .i64 0, .int .i64 16] w fun e w' => e = .returned (.string (numT 0 16)) ∧ Below w.heap.size w w' := fun w => number_ref 0 16 (by omega) (by omega) w
                  have fa3 : ∀ w, Calls Tryz.prog 46 #[.agg #[.int .i64 x.alg, .int .i64 x.id, .string nn, .string (zs p.size), .string (numT 0 16)]] w fun e w' => e = .returned (.tuple #[.string E, .int .i64 0]) ∧ Below w.heap.size w w' := fun w => by
                    rw [← hE]
                    exact refEncode_yes x.alg x.id nn (zs p.size) (numT 0 16) hal.1 hal.2 hids hnz (by rw [zs_size]; exact HP0.out) (numT_size _ _) w
                  have fa4 : ∀ w, Calls Tryz.prog 42 #[.string x.key, .string nn, .string (HD ++ m), .string p] w fun e w' => e = .returned (.tuple #[.string SE, .int .i64 0]) ∧ Below w.heap.size w w' := fun w => by
                    rw [← hSE]
                    exact rSeal_ok x.key nn (HD ++ m) p hkz (by unfold NonceLen; omega) (by rw [ByteArray.size_append, hHz]; have := HM0.out; omega) HP0.out w
                  have HFA : Hid _ := And.intro fa1 (And.intro fa2 (And.intro fa3 fa4))
                  have HNN : Hid _ := hnn
                  have HI12 : Hid (¬ (9223372036854775807 < x.fix.size + (numT x.ctr 8).size)) := by show ¬ _; rw [numT_size]; omega
                  have HI20 : Hid ((20 : Int) ≤ (E.size : Int)) := by show (20 : Int) ≤ _; omega
                  have HHD : Hid _ := hEh
                  have HHZ : Hid _ := hHz
                  have HI21 : Hid (¬ (9223372036854775807 < 20 + m.size)) := by show ¬ _; have := HM0.out; omega
                  have HI22 : Hid (¬ (9223372036854775807 < 20 + SE.size)) := by show ¬ _; have := HP0.out; omega
                  have HRC : Hid (HD ++ SE = sealR (H x.pos) m p) := by
                    show HD ++ SE = _
                    have hx := HX.out.2.1
                    have hn2 : hnonT (H x.pos) = nn := by unfold hnonT; rw [← hnn, hx.fix, hx.ctr]
                    have := seal_rec (H x.pos) m p hx.ok.fix HP0.out
                    rw [hn2, ← hx.alg, ← hx.id, ← hx.key HX.out.2.2, hHD, hSE] at this
                    exact this
                  clear fa1 fa2 fa3 fa4 hnn hfx hnz hE hHD hSE hkz hal hids hEz hEh hHz hSz hctr
                  have y3 := f3.size
                  obtain ⟨gb, hgb⟩ : ∃ gb, w1.heap.size = gb := ⟨_, rfl⟩
                  have lg := HT1.out.1.lt
                  have lgs := Row.lt HT1.out.2.r
                  have lgc := Row.lt HT1.out.2.c
                  have HBX : Hid (w3.heap[gb]? = some (.cells #[.int .i64 x.alg, .int .i64 x.id, .string x.fix, .int .i64 x.seals, .int .i64 x.ahead, .int .i64 x.most, .int .i64 ((x.res : Int) + (x.ahead : Int)), .bool x.ret, .string x.key, .int .i64 x.pos, .int .i64 x.ctr] 113 (0, 0))) := by rw [← hgb]; exact keepRow f3 HR3.out (by simp; omega)
                  have HSL : Hid (SlT w w3 B g gs gc num fl (.slice (some ⟨gh, 0, none⟩) hs.length cap) hs (wroteM S x.pos (cellT (H x.pos).c.reserving)) { R with writes := R.writes + 1 }) := ⟨t3, s3, ((Fr.of_below _ HB1.out (Nat.le_refl _)).alloc _).trans f3, HLS.out⟩
                  rw [hgb] at HGB
                  have HGE : Hid _ := hgb
                  clear f1 f2 f3' f4 t3 s3 f3 y3 lg lgs lgc hgb hcr HR HO HEQ HC HM HT1 HB1 HB2 HLS HIT H1 HT HS HQ HX HI8 HRE HMN HRY HR3 HHC HLY
                  go_wp2_with fail
                  rw [HGE.out]
                  clear HGE
                  suffices H16 : ∀ W, W.heap[gb]? = some (.cells #[.int .i64 x.alg, .int .i64 x.id, .string x.fix, .int .i64 x.seals, .int .i64 x.ahead, .int .i64 x.most, .int .i64 ((x.res : Int) + (x.ahead : Int)), .bool x.ret, .string x.key, .int .i64 x.pos, .int .i64 x.ctr] 113 (0, 0)) → SlT w W B g gs gc num fl (.slice (some ⟨gh, 0, none⟩) hs.length cap) hs (wroteM S x.pos (cellT (H x.pos).c.reserving)) { R with writes := R.writes + 1 } → Code.wp Tryz.prog _ _ _ W from H16 _ HBX.out HSL.out
                  clear HBX HSL
                  intro W X0 HSL0
                  have HSL : Hid _ := HSL0
                  clear HSL0
                  refine wp_region_held_drew (S := fun W' => W'.heap[gb]? = some (.cells #[.int .i64 x.alg, .int .i64 x.id, .string x.fix, .int .i64 x.seals, .int .i64 x.ahead, .int .i64 x.most, .int .i64 ((x.res : Int) + (x.ahead : Int)), .bool x.ret, .string x.key, .int .i64 x.pos, .int .i64 x.ctr] 113 (0, 0))) (by kernel_rfl) X0 (fun hHeld => ?_)
                  refine tp 0 _ ?r53
                  refine nz ?_
                  refine tk 1 ?v54 ?y54 ?r54
                  case y54 => (intro W' hW; have hb := cells11 hW; obtain ⟨c0, c1, c2, c3, c4, c5, c6, c7, c8, c9, c10⟩ := hb; go_simp; try with_reducible rfl)
                  refine nz ?_
                  refine tp 2 _ ?r55
                  refine nz ?_
                  refine tk 3 ?v56 ?y56 ?r56
                  case y56 => (intro W' hW; have hb := cells11 hW; obtain ⟨c0, c1, c2, c3, c4, c5, c6, c7, c8, c9, c10⟩ := hb; go_simp; try with_reducible rfl)
                  refine nz ?_
                  refine wpAnyH_ready (rs := [4]) (by kernel_rfl) (by simp) ?_
                  refine AllReadyH.cons rfl (fun K hK => ?_) ?nil4
                  case nil4 => exact AllReadyH.nil
                  go_simp
                  refine (HFA.out.1 _).mono ?_
                  rintro e wa ⟨rfl, ba⟩
                  have Xa : wa.heap[gb]? = some (.cells #[.int .i64 x.alg, .int .i64 x.id, .string x.fix, .int .i64 x.seals, .int .i64 x.ahead, .int .i64 x.most, .int .i64 ((x.res : Int) + (x.ahead : Int)), .bool x.ret, .string x.key, .int .i64 x.pos, .int .i64 x.ctr] 113 (0, 0)) := by rw [ba.block gb (heap_lt X0)]; exact X0
                  have HSa : Hid _ := HSL.out.drew.below ba
                  go_wp2_with fail
                  refine hK.out _ _ Xa (fun hHeld => ?_)
                  clear hK K
                  have i12 := HI12.out
                  refine tp 5 _ ?r57
                  refine nz ?_
                  refine tp 6 _ ?r58
                  refine nz ?_
                  refine wpAnyH_done (by kernel_rfl) ?_ _
                  clear X0 HSL i12
                  rw [HNN.out]
                  obtain ⟨c0, c1, c2, c3, c4, c5, c6, c7, c8, c9, c10⟩ := cells11 Xa
                  have fz := frozen_of_row _ _ 10 _ _ Xa
                  have Xb := box_ctr Xa (.int .i64 ((x.ctr : Int) + 1))
                  have HSb : Hid _ := HSa.out.set gb 10 (.int .i64 ((x.ctr : Int) + 1)) HGB.out
                  clear Xa HSa ba
                  go_wp2_with fail
                  suffices H18 : ∀ W, W.heap[gb]? = some (.cells #[.int .i64 x.alg, .int .i64 x.id, .string x.fix, .int .i64 x.seals, .int .i64 x.ahead, .int .i64 x.most, .int .i64 ((x.res : Int) + (x.ahead : Int)), .bool x.ret, .string x.key, .int .i64 x.pos, .int .i64 ((x.ctr : Int) + 1)] 113 (0, 0)) → SlT w W B g gs gc num fl (.slice (some ⟨gh, 0, none⟩) hs.length cap) hs (wroteM S x.pos (cellT (H x.pos).c.reserving)) { R with writes := R.writes + 1 } → Code.wp Tryz.prog _ _ _ W from H18 _ Xb HSb.out
                  clear Xb HSb c0 c1 c2 c3 c4 c5 c6 c7 c8 c9 c10 fz
                  intro W X0 HSL0
                  have X1 : W.drew.cell? ⟨g, 3, none⟩ = some (.slice (some ⟨gh, 0, none⟩) hs.length cap) ∧ W.drew.heap[gb]? = some (.cells #[.int .i64 x.alg, .int .i64 x.id, .string x.fix, .int .i64 x.seals, .int .i64 x.ahead, .int .i64 x.most, .int .i64 ((x.res : Int) + (x.ahead : Int)), .bool x.ret, .string x.key, .int .i64 x.pos, .int .i64 ((x.ctr : Int) + 1)] 113 (0, 0)) := ⟨(cells4' HSL0.t.r).2.2.2, X0⟩
                  obtain ⟨cur', hst, HF18, X2⟩ := HSL0.put (y := { x with res := (x.res + x.ahead) }) HK.out hkl HGB.out X0
                  try dsimp only at hst X2
                  have HFN : Hid _ := HF18
                  have hst2 : Sem.run Tryz.prog (StT 113 (.pointer (some ⟨gh, k * 11, none⟩)) (.agg #[.int .i64 x.alg, .int .i64 x.id, .string x.fix, .int .i64 x.seals, .int .i64 x.ahead, .int .i64 x.most, .int .i64 ((x.res : Int) + (x.ahead : Int)), .bool x.ret, .string x.key, .int .i64 x.pos, .int .i64 ((x.ctr : Int) + 1)])) W.drew = .ok () (W.drew.setRow gh cur') := hst
                  have X2' : (W.drew.setRow gh cur').cell? ⟨g, 3, none⟩ = some (.slice (some ⟨gh, 0, none⟩) hs.length cap) ∧ (W.drew.setRow gh cur').heap[gb]? = some (.cells #[.int .i64 x.alg, .int .i64 x.id, .string x.fix, .int .i64 x.seals, .int .i64 x.ahead, .int .i64 x.most, .int .i64 ((x.res : Int) + (x.ahead : Int)), .bool x.ret, .string x.key, .int .i64 x.pos, .int .i64 ((x.ctr : Int) + 1)] 113 (0, 0)) := X2
                  clear HF18 HSL0 X0 hst X2
                  refine wp_region_held_drew (S := fun W' => W'.cell? ⟨g, 3, none⟩ = some (.slice (some ⟨gh, 0, none⟩) hs.length cap) ∧ W'.heap[gb]? = some (.cells #[.int .i64 x.alg, .int .i64 x.id, .string x.fix, .int .i64 x.seals, .int .i64 x.ahead, .int .i64 x.most, .int .i64 ((x.res : Int) + (x.ahead : Int)), .bool x.ret, .string x.key, .int .i64 x.pos, .int .i64 ((x.ctr : Int) + 1)] 113 (0, 0))) (by kernel_rfl) X1 (fun hHeld => ?_)
                  refine tp 0 _ ?r59
                  refine nz ?_
                  refine tp 1 _ ?r60
                  refine nz ?_
                  refine tp 2 _ ?r61
                  refine nz ?_
                  refine tk 3 ?v62 ?y62 ?r62
                  case y62 => (intro W' hW; have a3 := hW.1; go_simp; try with_reducible rfl)
                  refine nz ?_
                  refine tp 4 _ ?r63
                  refine nz ?_
                  refine tk 5 ?v64 ?y64 ?r64
                  case y64 => (intro W' hW; have hb : blk W' gb = _ := hW.2; go_simp; try with_reducible rfl)
                  refine nz ?_
                  refine tp 6 _ ?r65
                  refine nz ?_
                  refine wpAnyH_ready (rs := [7]) (by kernel_rfl) (by simp) ?_
                  refine AllReadyH.cons rfl (fun K hK => ?_) ?nil7
                  case nil7 => exact AllReadyH.nil
                  go_wp2_with fail
                  refine hK.out _ _ X2' (fun hHeld => ?_)
                  clear hK K
                  refine wpAnyH_done (by kernel_rfl) ?_ _
                  have X3 := X2'.2
                  clear X1 X2' hst2
                  generalize W.drew.setRow gh cur' = W3 at *
                  go_wp2_with fail
                  refine (HFA.out.2.1 _).mono ?_
                  rintro e w4 ⟨rfl, b4⟩
                  have X4 : w4.heap[gb]? = some (.cells #[.int .i64 x.alg, .int .i64 x.id, .string x.fix, .int .i64 x.seals, .int .i64 x.ahead, .int .i64 x.most, .int .i64 ((x.res : Int) + (x.ahead : Int)), .bool x.ret, .string x.key, .int .i64 x.pos, .int .i64 ((x.ctr : Int) + 1)] 113 (0, 0)) := by rw [b4.block gb (heap_lt X3)]; exact X3
                  have HF4 : Hid _ := RPs.below HFN.out b4
                  clear HFN X3 b4
                  go_wp2_with fail
                  suffices H20 : ∀ W, W.heap[gb]? = some (.cells #[.int .i64 x.alg, .int .i64 x.id, .string x.fix, .int .i64 x.seals, .int .i64 x.ahead, .int .i64 x.most, .int .i64 ((x.res : Int) + (x.ahead : Int)), .bool x.ret, .string x.key, .int .i64 x.pos, .int .i64 ((x.ctr : Int) + 1)] 113 (0, 0)) → RPs w W B g gs gc num (.slice (some ⟨gh, 0, none⟩) hs.length cap) R gp (wroteM S x.pos (cellT (H x.pos).c.reserving)) (setD H x.pos ⟨(H x.pos).c.reserving, (H x.pos).ctr + 1⟩) → Code.wp Tryz.prog _ _ _ W from H20 _ X4 HF4.out
                  clear X4 HF4
                  intro W X0 HFI
                  have HF0 : Hid _ := HFI
                  clear HFI
                  have hm := mk8 p.size (by have := HP0.out; omega)
                  have hcv : (convert 134 9 (.slice (some ⟨W.heap.size, 0, none⟩) p.size p.size)).run Tryz.prog (W.alloc (.cells (arr p.size z8) 5)).drew = .ok (.string (zs p.size)) (W.alloc (.cells (arr p.size z8) 5)).drew := convZ p.size W.drew
                  have X6 : (W.alloc (.cells (arr p.size z8) 5)).drew.heap[gb]? = some (.cells #[.int .i64 x.alg, .int .i64 x.id, .string x.fix, .int .i64 x.seals, .int .i64 x.ahead, .int .i64 x.most, .int .i64 ((x.res : Int) + (x.ahead : Int)), .bool x.ret, .string x.key, .int .i64 x.pos, .int .i64 ((x.ctr : Int) + 1)] 113 (0, 0)) := keep_alloc (w := W) _ X0
                  have HF6 : Hid (RPs w (W.alloc (.cells (arr p.size z8) 5)).drew B g gs gc num (.slice (some ⟨gh, 0, none⟩) hs.length cap) R gp (wroteM S x.pos (cellT (H x.pos).c.reserving)) (setD H x.pos ⟨(H x.pos).c.reserving, (H x.pos).ctr + 1⟩)) := RPs.drew (RPs.alloc HF0.out _)
                  refine wp_region_held_drew (S := fun W' => W'.heap[gb]? = some (.cells #[.int .i64 x.alg, .int .i64 x.id, .string x.fix, .int .i64 x.seals, .int .i64 x.ahead, .int .i64 x.most, .int .i64 ((x.res : Int) + (x.ahead : Int)), .bool x.ret, .string x.key, .int .i64 x.pos, .int .i64 ((x.ctr : Int) + 1)] 113 (0, 0))) (by kernel_rfl) X0 (fun hHeld => ?_)
                  refine tp 0 _ ?r66
                  refine nz ?_
                  refine tk 1 ?v67 ?y67 ?r67
                  case y67 => (intro W' hW; have hb := cells11 hW; obtain ⟨c0, c1, c2, c3, c4, c5, c6, c7, c8, c9, c10⟩ := hb; go_simp; try with_reducible rfl)
                  refine nz ?_
                  refine tp 2 _ ?r68
                  refine nz ?_
                  refine tp 3 _ ?r69
                  refine nz ?_
                  refine tp 4 _ ?r70
                  refine nz ?_
                  refine tp 5 _ ?r71
                  refine nz ?_
                  refine tp 8 _ ?r72
                  refine nz ?_
                  refine wpAnyH_ready (rs := [6]) (by kernel_rfl) (by simp) ?_
                  refine AllReadyH.cons rfl (fun K hK => ?_) ?nil6
                  case nil6 => exact AllReadyH.nil
                  go_simp
                  refine hK.out _ _ X6 (fun hHeld => ?_)
                  clear hK K
                  refine wpAnyH_ready (rs := [7]) (by kernel_rfl) (by simp) ?_
                  refine AllReadyH.cons rfl (fun K hK => ?_) ?nil7
                  case nil7 => exact AllReadyH.nil
                  go_simp
                  refine hK.out _ _ X6 (fun hHeld => ?_)
                  clear hK K
                  clear hm hcv
                  refine tp 9 _ ?r73
                  refine nz ?_
                  refine wpAnyH_ready (rs := [10]) (by kernel_rfl) (by simp) ?_
                  refine AllReadyH.cons rfl (fun K hK => ?_) ?nil10
                  case nil10 => exact AllReadyH.nil
                  go_simp
                  refine (HFA.out.2.2.1 _).mono ?_
                  rintro e wb ⟨rfl, bb⟩
                  have X7 : wb.heap[gb]? = some (.cells #[.int .i64 x.alg, .int .i64 x.id, .string x.fix, .int .i64 x.seals, .int .i64 x.ahead, .int .i64 x.most, .int .i64 ((x.res : Int) + (x.ahead : Int)), .bool x.ret, .string x.key, .int .i64 x.pos, .int .i64 ((x.ctr : Int) + 1)] 113 (0, 0)) := by rw [bb.block gb (heap_lt X6)]; exact X6
                  have HF7 : Hid _ := RPs.below HF6.out bb
                  go_wp2_with fail
                  refine hK.out _ _ X7 (fun hHeld => ?_)
                  clear hK K
                  refine tp 11 _ ?r74
                  refine nz ?_
                  refine tp 12 _ ?r75
                  refine nz ?_
                  refine tp 13 _ ?r76
                  refine nz ?_
                  refine tp 14 _ ?r77
                  refine nz ?_
                  refine tp 15 _ ?r78
                  refine nz ?_
                  refine wpAnyH_done (by kernel_rfl) ?_ _
                  clear X0 X6 HF0 HF6 bb
                  obtain ⟨c0, c1, c2, c3, c4, c5, c6, c7, c8, c9, c10⟩ := cells11 X7
                  have i20 := HI20.out
                  have hd := HHD.out
                  have hdz := HHZ.out
                  have i21 := HI21.out
                  go_wp2_with fail
                  refine (HFA.out.2.2.2 _).mono ?_
                  rintro e w8 ⟨rfl, b8⟩
                  have HF8 : Hid _ := RPs.below HF7.out b8
                  clear HF7 b8 c0 c1 c2 c3 c4 c5 c6 c7 c8 c9 c10 X7
                  have i22 := HI22.out
                  go_wp2
                  go_ret2
                  rw [HE.out.1, HE.out.2.1, HE.out.2.2.1, HE.out.2.2.2]
                  exact ⟨by rw [← HRC.out]; rfl, HF8.out⟩
      · exact absurd rfl h0
end Go.Proofs.YtgalgjmhdbncbabGreat
