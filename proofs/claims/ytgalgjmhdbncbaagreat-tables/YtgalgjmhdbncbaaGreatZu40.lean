import Derived.Test.YtgalgjmhdbncbaaGreatZu39
import Derived.Test.YtgalgjmhdbncbaaGreatZu37
import Derived.Test.YtgalgjmhdbncbaaGreatZu00
namespace Go.Proofs.YtgalgjmhdbncbaaGreat
open Go.RowKit

theorem InvT.start {w w' : World} {B k gw i : Nat} {own : Nat → Nat × Nat} {sv sr sr' sg sw : Value} {vs : List Vt} {rs add : List Rg} {gi wi : List ByteArray} {v v' : Vt} (h : InvT w B own sv sr sg sw vs rs gi wi k) (hBw : B ≤ w.heap.size) (hg : own gw = (0, 0)) (hv : vs[i]? = some v)
    (f1 : v'.gx = v.gx) (f2 : v'.gr = v.gr) (f3 : v'.gc = v.gc) (hS : StoB w' v.gx v.gr v.gc v'.S v'.R) (hcell : ∀ j, v'.S.cell j = v.S.cell j) (hu0 : v'.R.user = v.R.tables + 1) (ht : v'.R.tables = v.R.tables + 1) (hwr : v'.R.writes ≤ v.R.writes + 1)
    (hF : Fr (v.gx :: v.gr :: gw :: sr.ownBlock.toList) w w')
    (hadd : (add = [] ∧ v'.S.tab = none) ∨ ∃ r, add = [r] ∧ r.v = i ∧ v'.S.tab = some r.gx ∧ w.heap.size ≤ r.gx ∧ w.heap.size ≤ r.gr ∧ (∀ b, r.sh.ownBlock = some b → w.heap.size ≤ b) ∧ TabB w' B r.gx r.gr r.num r.fl r.sh r.hs r.H v.gx v.gr v'.S v'.R)
    (hO : w'.ownsRow B 81 2 sr' (rs ++ add).length (rgL (rs ++ add))) (hb : ∀ b, sr'.ownBlock = some b → sr.ownBlock = some b ∨ w.heap.size ≤ b) :
    ∃ own', InvT w' B own' sv sr' sg sw (vs.set i v') (rs ++ add) gi wi (k + 1) ∧ (∀ b, b < w.heap.size → own' b = own b) ∧ FrT own [0, 2, 5, 6] w w' := by
  obtain ⟨hB0, p1, p2, p3, hwr0⟩ := h.V.st i v hv
  have hin : ∀ b, b ∈ (v.gx :: v.gr :: gw :: sr.ownBlock.toList) → own b = (5, i) ∨ own b = (6, i) ∨ own b = (0, 0) ∨ own b = (2, 0) := by
    intro b hb
    simp only [List.mem_cons, Option.mem_toList] at hb
    rcases hb with rfl | rfl | rfl | hb
    · exact .inl p1
    · exact .inr (.inl p2)
    · exact .inr (.inr (.inl hg))
    · exact .inr (.inr (.inr (h.sl b (by simpa using hb))))
  have hnot : ∀ b t j, own b = (t, j) → t ≠ 0 → t ≠ 2 → (t = 5 ∨ t = 6 → j ≠ i) → b ∉ (v.gx :: v.gr :: gw :: sr.ownBlock.toList) := by
    intro b t j hb h0 h2 h1 hm
    rcases hin b hm with e | e | e | e <;> rw [hb] at e <;> simp only [Prod.mk.injEq] at e <;> omega
  have hT : FrT own [0, 2, 5, 6] w w' := FrT.of hF (by
    intro b hb
    rcases hin b hb with e | e | e | e <;> rw [e] <;> simp)
  have sz := hF.size
  obtain ⟨own', lo, hsr', hnew⟩ : ∃ own' : Nat → Nat × Nat, (∀ b, b < w.heap.size → own' b = own b) ∧ (∀ b, sr'.ownBlock = some b → own' b = (2, 0)) ∧ (∀ r, add = [r] → own' r.gx = (8, rs.length) ∧ own' r.gr = (9, rs.length) ∧ ∀ b, r.sh.ownBlock = some b → own' b = (10, rs.length)) := by
    rcases hadd with ⟨rfl, _⟩ | ⟨r, rfl, _, _, g1, g2, g3, hTr⟩
    · refine ⟨fun b => if b < w.heap.size then own b else (2, 0), fun b hb' => by simp [hb'], fun b hb' => ?_, fun r hr => by cases hr⟩
      rcases hb b hb' with e | e
      · dsimp only
        rw [if_pos (World.ownsRow.lt h.ow b e).2]; exact h.sl b e
      · dsimp only
        rw [if_neg (by omega)]
    · refine ⟨fun b => if b < w.heap.size then own b else if b = r.gx then (8, rs.length) else if b = r.gr then (9, rs.length) else if r.sh.ownBlock = some b then (10, rs.length) else (2, 0), fun b hb' => by simp [hb'], fun b hb' => ?_, fun r2 hr => ?_⟩
      · rcases hb b hb' with e | e
        · dsimp only
          rw [if_pos (World.ownsRow.lt h.ow b e).2]; exact h.sl b e
        · obtain ⟨cur, hcur⟩ := owns_row hO hb'
          dsimp only
          rw [if_neg (by omega), if_neg (ne_rows hcur hTr.p (by decide)), if_neg (ne_rows hcur hTr.r.r (by decide)), if_neg]
          intro e2
          obtain ⟨cur2, hcur2⟩ := owns_row hTr.r.o e2
          exact ne_rows hcur hcur2 (by decide) rfl
      · simp only [List.cons.injEq, and_true] at hr
        subst hr
        refine ⟨?_, ?_, fun b hb' => ?_⟩
        · dsimp only
          rw [if_neg (by omega), if_pos rfl]
        · dsimp only
          rw [if_neg (by omega), if_neg (ne_rows hTr.r.r hTr.p (by decide)), if_pos rfl]
        · obtain ⟨cur2, hcur2⟩ := owns_row hTr.r.o hb'
          have := g3 b hb'
          dsimp only
          rw [if_neg (by omega), if_neg (ne_rows hcur2 hTr.p (by decide)), if_neg (ne_rows hcur2 hTr.r.r (by decide)), if_pos hb']
  have gs : ∀ (j : Nat) (x : Rg), (rs ++ add)[j]? = some x → (j = rs.length ∧ add = [x]) ∨ rs[j]? = some x := by
    intro j x hx
    rcases Nat.lt_or_ge j rs.length with hlt | hge
    · rw [List.getElem?_append_left hlt] at hx; exact .inr hx
    · rw [List.getElem?_append_right hge] at hx
      rcases hadd with ⟨rfl, _⟩ | ⟨r, rfl, _⟩
      · simp at hx
      · have hj := getE_lt hx
        simp only [List.length_cons, List.length_nil] at hj
        have : j - rs.length = 0 := by omega
        rw [this] at hx
        simp only [List.getElem?_cons_zero, Option.some.injEq] at hx
        exact .inl ⟨by omega, by rw [hx]⟩
  refine ⟨own', ⟨⟨?_, ?_, ?_, ?_⟩, ?_, hO, hsr', ?_, ?_, ?_, ?_, ?_, h.le, h.gz, h.wz⟩, lo, hT⟩
  · rw [List.length_set, vtL_set vs i v v' hv f1 f2]
    exact hT.owns h.V.ow (fun b hb => by rw [h.V.sl b hb]; simp)
  · intro b hb
    rw [lo b (h.V.lt b hb)]; exact h.V.sl b hb
  · intro j u hj
    rcases set_at hv hj with ⟨rfl, rfl⟩ | ⟨hn, hj⟩
    · obtain ⟨x1, x2, x3⟩ := hB0.lt
      rw [f1, f2, f3, lo _ x1, lo _ x2, lo _ x3]
      exact ⟨hS, p1, p2, p3, by omega⟩
    · obtain ⟨a2, b2, c2, d2, e5⟩ := h.V.st j u hj
      obtain ⟨x1, x2, x3⟩ := a2.lt
      rw [lo _ x1, lo _ x2, lo _ x3]
      exact ⟨StoB.fr a2 hF (hnot _ _ _ b2 (by omega) (by omega) (fun _ => hn)) (hnot _ _ _ c2 (by omega) (by omega) (fun _ => hn)) (hnot _ _ _ d2 (by omega) (by omega) (fun _ => hn)), b2, c2, d2, by omega⟩
  · intro b hb
    rw [lo b (by omega)]; exact h.V.lo b hb
  · intro j u hj
    have tr : ∀ t, (∃ (q' : Nat) (r2 : Rg), rs[q']? = some r2 ∧ r2.gx = t) → ∃ (q' : Nat) (r2 : Rg), (rs ++ add)[q']? = some r2 ∧ r2.gx = t := by
      rintro t ⟨q', r2, h1, h2⟩
      exact ⟨q', r2, by rw [List.getElem?_append_left (getE_lt h1)]; exact h1, h2⟩
    rcases set_at hv hj with ⟨rfl, rfl⟩ | ⟨hn, hj⟩
    · obtain ⟨c1, c2, c3⟩ := h.cz j v hv
      refine ⟨fun x hx => by rw [hcell]; exact c1 x hx, by rw [ht]; omega, fun t ht2 => ?_⟩
      rcases hadd with ⟨_, e⟩ | ⟨r, rfl, _, e, _⟩
      · rw [e] at ht2; cases ht2
      · rw [e] at ht2
        simp only [Option.some.injEq] at ht2
        exact ⟨rs.length, r, by rw [List.getElem?_append_right (Nat.le_refl _)]; simp, ht2⟩
    · obtain ⟨c1, c2, c3⟩ := h.cz j u hj
      exact ⟨c1, by omega, fun t ht => tr t (c3 t ht)⟩
  · intro j r2 hj
    rcases gs j r2 hj with ⟨rfl, hadd2⟩ | hj
    · obtain ⟨n1, n2, n3⟩ := hnew r2 hadd2
      refine ⟨n1, n2, n3, v', ?_⟩
      rcases hadd with ⟨e, _⟩ | ⟨r, e, e2, _, _, _, _, hTr⟩
      · rw [e] at hadd2; cases hadd2
      · rw [e] at hadd2
        simp only [List.cons.injEq, and_true] at hadd2
        subst hadd2
        rw [e2, f1, f2]
        exact ⟨set_same v' hv, hTr⟩
    · obtain ⟨a1, a2, a3, u, hu, hTu⟩ := h.rg j r2 hj
      obtain ⟨y1, y2, y3⟩ := hTu.lt
      have hF2 := hTu.fr hF (hnot _ _ _ a1 (by omega) (by omega) (by omega)) (hnot _ _ _ a2 (by omega) (by omega) (by omega)) (fun b hb => hnot _ _ _ (a3 b hb) (by omega) (by omega) (by omega))
      rw [lo _ y1, lo _ y2]
      refine ⟨a1, a2, fun b hb => by rw [lo b (y3 b hb)]; exact a3 b hb, ?_⟩
      by_cases e : r2.v = i
      · rw [e, hv] at hu
        simp only [Option.some.injEq] at hu
        subst hu
        refine ⟨v', by rw [e]; exact set_same v' hv, ?_⟩
        rw [f1, f2]
        have hnm := hF2.nm
        refine ⟨hF2.p, hF2.r, hF2.rel, ?_, by rw [ht]; omega⟩
        rw [hu0]
        refine ⟨fun _ => ?_, fun _ => ?_⟩
        · rcases hadd with ⟨_, e⟩ | ⟨r, _, _, e, g1, _⟩
          · rw [e]; simp
          · rw [e]
            simp only [ne_eq, Option.some.injEq]
            omega
        · unfold overB
          rw [Bool.or_eq_true, decide_eq_true_iff]
          exact .inr (by omega)
      · exact ⟨u, set_other v' hu e, hF2⟩
  · exact hT.owns h.og (fun b hb => by rw [h.gl b hb]; simp)
  · intro b hb
    rw [lo b (World.ownsRow.lt h.og b hb).2]; exact h.gl b hb
  · exact hT.owns h.ox (fun b hb => by rw [h.xl b hb]; simp)
  · intro b hb
    rw [lo b (World.ownsRow.lt h.ox b hb).2]; exact h.xl b hb
theorem InvT.gave {w w' : World} {B k gw : Nat} {own : Nat → Nat × Nat} {sv sr sg sg' sw sw' : Value} {vs : List Vt} {rs : List Rg} {gi wi : List ByteArray} {s m : ByteArray} (h : InvT w B own sv sr sg sw vs rs gi wi k) (hBw : B ≤ w.heap.size) (hg : own gw = (0, 0))
    (hF : Fr (gw :: (sg.ownBlock.toList ++ sw.ownBlock.toList)) w w') (O1 : w'.ownsRow B 9 1 sg' (gi ++ [s]).length ((gi ++ [s]).map .string)) (O2 : w'.ownsRow B 9 1 sw' (wi ++ [m]).length ((wi ++ [m]).map .string))
    (b1 : ∀ b, sg'.ownBlock = some b → sg.ownBlock = some b ∨ w.heap.size ≤ b) (b2 : ∀ b, sw'.ownBlock = some b → sw.ownBlock = some b ∨ w.heap.size ≤ b) (hne : ∀ b, sg'.ownBlock = some b → sw'.ownBlock ≠ some b) (hs : s.size ≤ 1000) (hm : m.size ≤ 1000) :
    ∃ own', InvT w' B own' sv sr sg' sw' vs rs (gi ++ [s]) (wi ++ [m]) k ∧ (∀ b, b < w.heap.size → own' b = own b) ∧ FrT own [0, 3, 4] w w' := by
  have hT : FrT own [0, 3, 4] w w' := FrT.of hF (by
    intro b hb
    simp only [List.mem_cons, List.mem_append, Option.mem_toList] at hb
    rcases hb with rfl | hb | hb
    · rw [hg]; simp
    · rw [h.gl b (by simpa using hb)]; simp
    · rw [h.xl b (by simpa using hb)]; simp)
  obtain ⟨own', lo, h3, h4⟩ : ∃ own' : Nat → Nat × Nat, (∀ b, b < w.heap.size → own' b = own b) ∧ (∀ b, sg'.ownBlock = some b → own' b = (3, 0)) ∧ (∀ b, sw'.ownBlock = some b → own' b = (4, 0)) := by
    refine ⟨fun b => if b < w.heap.size then own b else if sg'.ownBlock = some b then (3, 0) else (4, 0), fun b hb => by simp [hb], fun b hb => ?_, fun b hb => ?_⟩
    · rcases b1 b hb with e | e
      · dsimp only
        rw [if_pos (World.ownsRow.lt h.og b e).2]; exact h.gl b e
      · dsimp only
        rw [if_neg (by omega), if_pos hb]
    · rcases b2 b hb with e | e
      · dsimp only
        rw [if_pos (World.ownsRow.lt h.ox b e).2]; exact h.xl b e
      · dsimp only
        rw [if_neg (by omega), if_neg (fun e2 => hne b e2 hb)]
  refine ⟨own', ⟨⟨hT.owns h.V.ow (fun b hb => by rw [h.V.sl b hb]; simp), fun b hb => by rw [lo b (h.V.lt b hb)]; exact h.V.sl b hb, ?_, fun b hb => by rw [lo b (by omega)]; exact h.V.lo b hb⟩, h.cz, hT.owns h.ow (fun b hb => by rw [h.sl b hb]; simp), fun b hb => by rw [lo b (World.ownsRow.lt h.ow b hb).2]; exact h.sl b hb, ?_, O1, h3, O2, h4, by rw [List.length_append, List.length_append, h.le]; rfl, ?_, ?_⟩, lo, hT⟩
  · intro i v hi
    obtain ⟨a, b, c, d, e⟩ := h.V.st i v hi
    obtain ⟨x1, x2, x3⟩ := a.lt
    rw [lo _ x1, lo _ x2, lo _ x3]
    exact ⟨StoB.frT hT a (by rw [b]; simp) (by rw [c]; simp) (by rw [d]; simp), b, c, d, e⟩
  · intro i r hi
    obtain ⟨a1, a2, a3, u, hu, hTu⟩ := h.rg i r hi
    obtain ⟨y1, y2, y3⟩ := hTu.lt
    rw [lo _ y1, lo _ y2]
    exact ⟨a1, a2, fun b hb => by rw [lo b (y3 b hb)]; exact a3 b hb, u, hu, hTu.frT hT (by rw [a1]; simp) (by rw [a2]; simp) (fun b hb => by rw [a3 b hb]; simp)⟩
  · intro i x hi
    rcases Nat.lt_or_ge i gi.length with hlt | hge
    · rw [List.getElem?_append_left hlt] at hi; exact h.gz i x hi
    · rw [List.getElem?_append_right hge] at hi
      have hj := getE_lt hi
      simp only [List.length_cons, List.length_nil] at hj
      rw [show i - gi.length = 0 by omega] at hi
      simp only [List.getElem?_cons_zero, Option.some.injEq] at hi
      rw [← hi]; exact hs
  · intro i x hi
    rcases Nat.lt_or_ge i wi.length with hlt | hge
    · rw [List.getElem?_append_left hlt] at hi; exact h.wz i x hi
    · rw [List.getElem?_append_right hge] at hi
      have hj := getE_lt hi
      simp only [List.length_cons, List.length_nil] at hj
      rw [show i - wi.length = 0 by omega] at hi
      simp only [List.getElem?_cons_zero, Option.some.injEq] at hi
      rw [← hi]; exact hm
end Go.Proofs.YtgalgjmhdbncbaaGreat
namespace Go.Proofs.YtgalgjmhdbncbaaGreat
open Go.RowKit
attribute [local go_sem ↓] Go.wp_at_zero Go.wp_at_succ

theorem StoR.below {w w' : World} {g gc : Nat} {S : Sto} {R : RSt} (h : StoR w g gc S R) (hb : Below w.heap.size w w') : StoR w' g gc S R := h.fr (Fr.of_below [] hb (Nat.le_refl _)) (by simp) (by simp)
set_option maxRecDepth 100000 in
set_option maxHeartbeats 4000000 in
theorem rmay_over (B g gs gc num : Nat) (fl : Bool) (sh : Value) (hs : List Rh) (S : Sto) (R : RSt) (id : Int) (hl : hs.length ≤ 8) (ho : overB fl R.user num = true) (w : World) (t : TabR w B g gs num fl sh hs) (h : StoR w gs gc S R) :
    Calls Tryz.prog 107 #[ptr g, .int .i64 id] w fun e w' => e = .returned (.tuple #[.int .i64 0, .int .i64 10]) ∧ Below w.heap.size w w' := by
  have h1 := fun w t h => rover_any B g gs gc num fl sh hs S R w t h
  have h2 := fun w t => rfind_any B g gs num fl sh hs id hl w t
  rw [ho] at h1
  unfold ptr at h1 h2 ⊢
  have HO : Hid _ := h1
  have HF : Hid _ := h2
  have HT : Hid _ := t
  have HS : Hid _ := h
  clear h1 h2 t h
  go_enter Tryz.func107, Tryz.ntmps107
  go_wp2_with fail
  refine (HO.out _ HT.out HS.out).mono ?_
  rintro e w1 ⟨rfl, b1⟩
  go_wp2_with fail
  refine (HF.out _ (HT.out.below b1)).mono ?_
  rintro e w2 ⟨⟨r, hr, rfl⟩, hw⟩
  rw [hw]
  clear hr
  go_wp2
  go_ret2
  exact ⟨rfl, b1⟩
set_option maxRecDepth 100000 in
set_option maxHeartbeats 4000000 in
theorem rmay_live (B g gs gc num : Nat) (fl : Bool) (sh : Value) (hs : List Rh) (S : Sto) (R : RSt) (H : Nat → Hd) (id : Int) (i : Nat) (c : Int) (hrel : RelH hs H) (ho : overB fl R.user num = false) (hL : liveP H id i c) (w : World) (t : TabR w B g gs num fl sh hs) (h : StoR w gs gc S R) :
    Calls Tryz.prog 107 #[ptr g, .int .i64 id] w fun e w' => ((c = 0 ∧ ∃ (k : Nat) (x : Rh), hs[k]? = some x ∧ x.pos = i ∧ i < 8 ∧ HRel x (H i) ∧ x.ret = false ∧ (H i).c.st = 1 ∧ e = .returned (.tuple #[.int .i64 k, .int .i64 0])) ∨ (c ≠ 0 ∧ e = .returned (.tuple #[.int .i64 0, .int .i64 c]))) ∧ Below w.heap.size w w' := by
  have h1 := fun w t h => rover_any B g gs gc num fl sh hs S R w t h
  have h2 := fun w t => rfind_any B g gs num fl sh hs id hrel.le w t
  rw [ho] at h1
  unfold ptr at h1 h2 ⊢
  have HO : Hid _ := h1
  have HF : Hid _ := h2
  have HT : Hid _ := t
  have HS : Hid _ := h
  have HR : Hid _ := hrel
  have HL : Hid _ := hL
  clear h1 h2 t h hrel hL
  go_enter Tryz.func107, Tryz.ntmps107
  go_wp2_with fail
  refine (HO.out _ HT.out HS.out).mono ?_
  rintro e w1 ⟨rfl, b1⟩
  have t1 := HT.out.below b1
  go_wp2_with fail
  refine (HF.out _ t1).mono ?_
  rintro e w2 ⟨⟨r, hr, rfl⟩, hw⟩
  rw [hw]
  clear hw
  rcases HR.out.may hr HL.out with ⟨hc, k, x, rfl, hk, hp, i8, hx, hret, hst⟩ | ⟨hc, k, x, rfl, hk, hret⟩ | ⟨hc, rfl⟩
  · have hkl := getE_lt hk
    obtain ⟨a0, a1, a2, a3⟩ := cells4' t1.r
    obtain ⟨p, cap, rfl, hat⟩ := t1.sl
    obtain ⟨gh, rfl, hA, _, _, _⟩ := hat k x hk
    have c7 := hA.c7
    rw [hret] at c7
    have HX : Hid _ := And.intro hk (And.intro hp (And.intro hx (And.intro hret (And.intro hst (And.intro hc i8)))))
    clear hr hk hp hx hret hst t1 hat hA hc i8
    go_wp2
    go_ret2
    exact ⟨.inl ⟨HX.out.2.2.2.2.2.1, k, x, HX.out.1, HX.out.2.1, HX.out.2.2.2.2.2.2, HX.out.2.2.1, HX.out.2.2.2.1, HX.out.2.2.2.2.1, rfl⟩, b1⟩
  · have hkl := getE_lt hk
    obtain ⟨a0, a1, a2, a3⟩ := cells4' t1.r
    obtain ⟨p, cap, rfl, hat⟩ := t1.sl
    obtain ⟨gh, rfl, hA, _, _, _⟩ := hat k x hk
    have c7 := hA.c7
    rw [hret] at c7
    have HC : Hid _ := hc
    clear hr hk hret t1 hat hA hc
    go_wp2
    go_ret2
    exact ⟨.inr ⟨by rw [HC.out]; decide, by rw [HC.out]; rfl⟩, b1⟩
  · have HC : Hid _ := hc
    clear hr t1 hc
    go_wp2
    go_ret2
    exact ⟨.inr ⟨by rw [HC.out]; decide, by rw [HC.out]; rfl⟩, b1⟩

theorem run_ldT173_0 (g : Nat) (w : World) : Sem.run Tryz.prog (LdT 173 (.pointer (some ⟨g, 0, none⟩))) w = ldN (blk w g) 0 11 w (ldO Tryz.prog 173 g 0 w) := run_ldT173 g 0 w
attribute [local go_sem ↓] al173 stw173 ldw173
attribute [local go_sem] run_al173 run_stT173 stN_rh run_ldT173_0 ldN_rh blk_new blk_at blk_old blk_drew blk_setCell blk_setRow alloc_setRow
set_option maxRecDepth 100000 in
set_option maxHeartbeats 4000000 in
theorem rstatus_any (B g gs num : Nat) (fl : Bool) (sh : Value) (hs : List Rh) (H : Nat → Hd) (id : Int) (hrel : RelH hs H) (w : World) (t : TabR w B g gs num fl sh hs) :
    Calls Tryz.prog 70 #[ptr g, .int .i64 id] w fun e w' => ((∃ i, i < 8 ∧ hit H id i ∧ e = .returned (.tuple #[.agg (stA (H i).c.alg (H i).ctr (H i).c.res (decide ((H i).c.st = 2))), .int .i64 0])) ∨ ((∀ j, j < 8 → ¬ hit H id j) ∧ e = .returned (.tuple #[.agg (stA 0 0 0 false), .int .i64 11]))) ∧ Below w.heap.size w w' := by
  have h2 := fun w t => rfind_any B g gs num fl sh hs id hrel.le w t
  unfold ptr at h2 ⊢
  have HF : Hid _ := h2
  have HR : Hid _ := hrel
  have HT : Hid _ := t
  clear h2 hrel t
  have k0 := (Below.refl w.heap.size w).alloc (Nat.le_refl _) (.cells (stA 0 0 0 false) 68)
  have t0 := HT.out.below k0
  have hz0 : (w.alloc (.cells (stA 0 0 0 false) 68)).heap[w.heap.size]? = some (.cells (stA 0 0 0 false) 68 (0, 0)) := heap_of_new _ _ _ rfl
  have HT0 : Hid _ := t0
  clear t0
  unfold stA at HT0 k0
  go_enter Tryz.func70, Tryz.ntmps70
  go_wp2_with fail
  refine (HF.out _ HT0.out).mono ?_
  rintro e w2 ⟨⟨r, hr, rfl⟩, hw⟩
  have t2 : TabR w2 B g gs num fl sh hs := by rw [hw]; exact HT0.out
  have hz2 : w2.heap[w.heap.size]? = some (.cells (stA 0 0 0 false) 68 (0, 0)) := by rw [hw]; exact hz0
  have k2 : Below w.heap.size w w2 := by rw [hw]; exact k0
  clear hw hz0 k0 HT0
  rcases HR.out.find hr with ⟨k, x, rfl, hk, p8, hx, hh, hu⟩ | ⟨rfl, hn⟩
  · have hkl := getE_lt hk
    obtain ⟨p, cap, rfl, hat⟩ := t2.sl
    obtain ⟨gh, rfl, hA, _, _, _⟩ := hat k x hk
    obtain ⟨a0, a1, a2, a3⟩ := cells4' t2.r
    have hld : Sem.run Tryz.prog (LdT 173 (.pointer (some ⟨gh, k * 11, none⟩))) w2 = .ok (.agg (rhA x)) w2 := ld_el hA
    unfold rhA at hld
    have hz3 : (w2.alloc (.cells #[.int .i64 x.alg, .int .i64 x.id, .string x.fix, .int .i64 x.seals, .int .i64 x.ahead, .int .i64 x.most, .int .i64 x.res, .bool x.ret, .string x.key, .int .i64 x.pos, .int .i64 x.ctr] 173)).heap[w.heap.size]? = some (.cells (stA 0 0 0 false) 68 (0, 0)) := heap_of_old _ _ _ _ (heap_lt hz2) hz2
    have k3 := k2.alloc k2.size (.cells #[.int .i64 x.alg, .int .i64 x.id, .string x.fix, .int .i64 x.seals, .int .i64 x.ahead, .int .i64 x.most, .int .i64 x.res, .bool x.ret, .string x.key, .int .i64 x.pos, .int .i64 x.ctr] 173)
    obtain ⟨z0, z1, z2, z3⟩ := cells4 hz3
    have f0 := fun j => frozen_of_row _ _ j _ _ hz3
    have HX : Hid _ := And.intro p8 (And.intro hh hx)
    have HZ : Hid _ := And.intro hz3 k3
    have e1 := hx.alg
    have e2 := hx.ctr
    have e3 := hx.res
    have e4 := hx.ret
    have HE : Hid _ := And.intro e1 (And.intro e2 (And.intro e3 e4))
    clear hr hk hx hh hu hat hA p8 t2 hz2 k2 hz3 k3 e1 e2 e3 e4
    go_wp2
    refine bodyPost_ret (res68 Tryz.results70 _ _ w.heap.size _ _ _ _ _ rfl rfl (heap_four _ _ _ _ HZ.out.1)) rfl ⟨.inl ⟨x.pos, HX.out.1, HX.out.2.1, ?_⟩, ?_⟩
    · rw [HE.out.1, HE.out.2.1, HE.out.2.2.1, HE.out.2.2.2]; rfl
    · exact ((((HZ.out.2.setCell (Nat.le_refl _) _).setCell (Nat.le_refl _) _).setCell (Nat.le_refl _) _).setCell (Nat.le_refl _) _)
  · clear hr t2
    obtain ⟨z0, z1, z2, z3⟩ := cells4 hz2
    have f0 := fun j => frozen_of_row _ _ j _ _ hz2
    have HN : Hid _ := hn
    clear hn
    go_wp2
    refine bodyPost_ret (res68 Tryz.results70 _ _ w.heap.size _ _ _ _ _ rfl rfl (heap_four _ _ _ _ hz2)) rfl ⟨.inr ⟨HN.out, rfl⟩, ?_⟩
    exact ((((k2.setCell (Nat.le_refl _) _).setCell (Nat.le_refl _) _).setCell (Nat.le_refl _) _).setCell (Nat.le_refl _) _)
end Go.Proofs.YtgalgjmhdbncbaaGreat
namespace Go.Proofs.YtgalgjmhdbncbaaGreat
open Go.RowKit
attribute [local go_sem ↓] Go.wp_at_zero Go.wp_at_succ

attribute [local go_sem ↓] al173 stw173 ldw173
attribute [local go_sem] run_al173 run_stT173 stN_rh run_ldT173_0 ldN_rh blk_new blk_at blk_old blk_drew blk_setCell blk_setRow alloc_setRow
structure LyS (W : World) (g gs gb : Nat) (h : Rh) : Prop where
  sp : W.cell? ⟨g, 0, none⟩ = some (ptr gs)
  cr : W.heap[gb]? = some (.cells #[.int .i64 h.alg, .int .i64 h.id, .string h.fix, .int .i64 h.seals, .int .i64 h.ahead, .int .i64 h.most, .int .i64 h.res, .bool h.ret, .string h.key, .int .i64 h.pos, .int .i64 h.ctr] 173 (0, 0))
theorem LyS.drew {W : World} {g gs gb : Nat} {h : Rh} (s : LyS W g gs gb h) : LyS W.drew g gs gb h := ⟨s.sp, s.cr⟩
theorem StoR.drew {w : World} {g gc : Nat} {S : Sto} {R : RSt} (h : StoR w g gc S R) : StoR w.drew g gc S R := ⟨h.r, h.c, h.left⟩
theorem tabR_fail {w : World} {B g gs num : Nat} {fl : Bool} {sh : Value} {hs : List Rh} (t : TabR w B g gs num fl sh hs) : TabR (w.setCell ⟨g, 2, none⟩ (.bool true)) B g gs num true sh hs := by
  refine ⟨by simpa using heap_setCell_same w g 2 _ 171 (.bool true) t.r, ?_⟩
  refine ownsFr t.o (Fr.setCell (Fr.refl [g] w) (.inr (by simp)) _) (fun b hb => ?_)
  obtain ⟨cur, hcur⟩ : ∃ cur, w.heap[b]? = some (.cells cur 173 (0, 0)) := by
    rcases t.o.2 with ⟨rfl, _⟩ | ⟨g', cap, cur, rfl, _, hr, _⟩
    · simp [Value.ownBlock] at hb
    · simp only [Value.ownBlock, Option.some.injEq] at hb
      subst hb
      exact ⟨cur, hr⟩
  simp only [List.mem_singleton]
  rintro rfl
  rw [t.r] at hcur
  simp at hcur
set_option maxRecDepth 100000 in
set_option maxHeartbeats 4000000 in
theorem rlay_any (B g gs gc num : Nat) (fl : Bool) (sh : Value) (hs : List Rh) (S : Sto) (R : RSt) (h : Rh) (d : Hd) (hr : HRel h d) (hp : h.pos < 8) (hwr : R.writes < 4611686018427387904) (w : World) (t : TabR w B g gs num fl sh hs) (hS : StoR w gs gc S R) :
    Calls Tryz.prog 106 #[ptr g, .agg (rhA h)] w fun e w' => ((S.left = 1 ∧ e = .returned (.int .i64 8) ∧ TabR w' B g gs num true sh hs) ∨ (S.left ≠ 1 ∧ e = .returned (.int .i64 0) ∧ TabR w' B g gs num fl sh hs)) ∧ StoR w' gs gc (wroteM S h.pos (cellT d.c)) { R with writes := R.writes + 1 } ∧ Fr [g, gs, gc] w w' := by
  have hz : (cellT d.c).size ≤ 64 := by
    rw [cellT_size, hr.ok.key]
    have := hr.ok.alg
    split <;> omega
  have hin : inCell (h.pos : Int) = true := by simp [inCell]; omega
  have hwm : writeM S h.pos (cellT d.c) = if S.left = 1 then 8 else 0 := by
    unfold writeM
    rw [if_neg (by rw [hin]; decide), if_neg (by omega)]
  have hwR : wroteR h.pos (cellT d.c) R = { R with writes := R.writes + 1 } := by
    unfold wroteR
    rw [if_neg (by rw [hin]; decide), if_neg (by omega)]
  have hw := fun w h' => refWrite_any gs gc S R h.pos (cellT d.c) hwr w h'
  rw [hwm, hwR] at hw
  have hx := fun w => rtext_any h hr.sm w
  rw [rhT_cell h d hr] at hx
  have ne1 : g ≠ gs := ne_rows t.r hS.r (by decide)
  have ne2 : g ≠ gc := ne_rows t.r hS.c (by decide)
  have hn : ∀ b, sh.ownBlock = some b → b ∉ [gs, gc] := by
    intro b hb
    obtain ⟨cur, hcur⟩ := owns_row t.o hb
    simp only [List.mem_cons, List.not_mem_nil, or_false, not_or]
    exact ⟨ne_rows hcur hS.r (by decide), ne_rows hcur hS.c (by decide)⟩
  have l1 := t.lt
  have l2 := Row.lt hS.r
  have l3 := Row.lt hS.c
  generalize cellT d.c = X at hw hx ⊢
  clear hwm hwR hz hin hr hp hwr
  have B0 := (Below.refl w.heap.size w).alloc (Nat.le_refl _) (.cells (rhA h) 173)
  have T0 := t.below B0
  have S0 := hS.below B0
  have X0 : LyS (w.alloc (.cells (rhA h) 173)) g gs w.heap.size h := ⟨(cells4' T0.r).1, heap_of_new _ _ _ rfl⟩
  have F0 : Fr [g, gs, gc] w (w.alloc (.cells (rhA h) 173)) := (Fr.refl _ _).alloc _
  unfold ptr at hw ⊢
  unfold rhA at hx X0 T0 S0 F0 ⊢
  have HW : Hid _ := hw
  have HX : Hid _ := hx
  have HN : Hid _ := hn
  have HT0 : Hid _ := T0
  have HS0 : Hid _ := S0
  have HF0 : Hid _ := F0
  have HX0 : Hid _ := X0
  clear hw hx hn T0 S0 F0 X0 B0 t hS
  go_enter Tryz.func106, Tryz.ntmps106
  go_wp2_with fail
  refine (HX.out _).mono ?_
  rintro e w1 ⟨rfl, b1⟩
  have y1 := b1.size
  have X0 : LyS w1 g gs w.heap.size h := ⟨by rw [b1.cell (p := ⟨g, 0, none⟩) (by simp; omega)]; exact HX0.out.sp, by rw [b1.block _ (by simp)]; exact HX0.out.cr⟩
  have HT : Hid (TabR w1 B g gs num fl sh hs) := HT0.out.below b1
  have HS : Hid (StoR w1 gs gc S R) := HS0.out.below b1
  have HF : Hid (Fr [g, gs, gc] w w1) := HF0.out.trans (Fr.of_below _ b1 (Nat.le_refl _))
  clear HT0 HS0 HF0 HX0 HX b1
  simp at y1
  by_cases h1 : S.left = 1
  · rw [if_pos h1] at HW
    have H1 : Hid _ := h1
    clear h1
    go_wp2_with fail
    refine wp_region_held_drew (S := fun W' => LyS W' g gs w.heap.size h) (by kernel_rfl) X0.drew (fun hHeld => ?_)
    refine tp 0 _ ?r1
    refine nz ?_
    refine tp 1 _ ?r2
    refine nz ?_
    refine tp 2 _ ?r3
    refine nz ?_
    refine tk 3 ?v4 ?y4 ?r4
    case y4 => (intro W' hW; have hp := hW.sp; unfold ptr at hp; go_simp; try with_reducible rfl)
    refine nz ?_
    refine tp 4 _ ?r5
    refine nz ?_
    refine tk 5 ?v6 ?y6 ?r6
    case y6 => (intro W' hW; obtain ⟨c0, c1, c2, c3, c4, c5, c6, c7, c8, c9, c10⟩ := cells11 hW.cr; go_simp; try with_reducible rfl)
    refine nz ?_
    refine tp 6 _ ?r7
    refine nz ?_
    refine wpAnyH_ready (rs := [7]) (by kernel_rfl) (by simp) ?_
    refine AllReadyH.cons rfl (fun K hK => ?_) ?nil7
    case nil7 => exact AllReadyH.nil
    go_simp
    refine (HW.out _ (HS.out.drew)).mono ?_
    rintro e wb ⟨rfl, Sb, Fb⟩
    have Xb : LyS wb g gs w.heap.size h := ⟨by rw [World.cell?_of_block (w := w1.drew) (Fb.block g (by show g < w1.heap.size; omega) (by simp; omega))]; exact X0.sp, by rw [Fb.block _ (by show w.heap.size < w1.heap.size; omega) (by simp; omega)]; exact X0.cr⟩
    have Tb : TabR wb B g gs num fl sh hs := HT.out.drew.fr Fb (by simp; omega) HN.out
    have FF : Fr [g, gs, gc] w wb := (HF.out.drew).trans (Fb.sub (by simp))
    go_wp2_with fail
    refine hK.out _ _ Xb (fun hHeld => ?_)
    clear hK K
    refine tp 8 _ ?r8
    refine nz ?_
    refine wpAnyH_done (by kernel_rfl) ?_ _
    have fz := frozen_of_row _ _ 2 _ _ Tb.r
    obtain ⟨a0, a1, a2, a3⟩ := cells4' Tb.r
    have Tc := tabR_fail Tb
    have Fc := Fr.setCell FF (a := ⟨g, 2, none⟩) (.inr (by simp)) (.bool true)
    have Sc := Sb.fr (Fr.setCell (Fr.refl [g] wb) (a := ⟨g, 2, none⟩) (.inr (by simp)) (.bool true)) (by simp; omega) (by simp; omega)
    have HQ : Hid _ := And.intro Tc (And.intro Fc Sc)
    clear Tc Fc Sc Sb Tb FF X0 HT HS HF HW Fb
    go_wp2
    go_ret
    exact ⟨.inl ⟨H1.out, rfl, HQ.out.1⟩, HQ.out.2.2, HQ.out.2.1⟩
  · rw [if_neg h1] at HW
    have H1 : Hid _ := h1
    clear h1
    go_wp2_with fail
    refine wp_region_held_drew (S := fun W' => LyS W' g gs w.heap.size h) (by kernel_rfl) X0.drew (fun hHeld => ?_)
    refine tp 0 _ ?r9
    refine nz ?_
    refine tp 1 _ ?r10
    refine nz ?_
    refine tp 2 _ ?r11
    refine nz ?_
    refine tk 3 ?v12 ?y12 ?r12
    case y12 => (intro W' hW; have hp := hW.sp; unfold ptr at hp; go_simp; try with_reducible rfl)
    refine nz ?_
    refine tp 4 _ ?r13
    refine nz ?_
    refine tk 5 ?v14 ?y14 ?r14
    case y14 => (intro W' hW; obtain ⟨c0, c1, c2, c3, c4, c5, c6, c7, c8, c9, c10⟩ := cells11 hW.cr; go_simp; try with_reducible rfl)
    refine nz ?_
    refine tp 6 _ ?r15
    refine nz ?_
    refine wpAnyH_ready (rs := [7]) (by kernel_rfl) (by simp) ?_
    refine AllReadyH.cons rfl (fun K hK => ?_) ?nil7
    case nil7 => exact AllReadyH.nil
    go_simp
    refine (HW.out _ (HS.out.drew)).mono ?_
    rintro e wb ⟨rfl, Sb, Fb⟩
    have Xb : LyS wb g gs w.heap.size h := ⟨by rw [World.cell?_of_block (w := w1.drew) (Fb.block g (by show g < w1.heap.size; omega) (by simp; omega))]; exact X0.sp, by rw [Fb.block _ (by show w.heap.size < w1.heap.size; omega) (by simp; omega)]; exact X0.cr⟩
    have Tb : TabR wb B g gs num fl sh hs := HT.out.drew.fr Fb (by simp; omega) HN.out
    have FF : Fr [g, gs, gc] w wb := (HF.out.drew).trans (Fb.sub (by simp))
    go_wp2_with fail
    refine hK.out _ _ Xb (fun hHeld => ?_)
    clear hK K
    refine tp 8 _ ?r16
    refine nz ?_
    refine wpAnyH_done (by kernel_rfl) ?_ _
    have HQ : Hid _ := And.intro Tb (And.intro FF Sb)
    clear Sb Tb FF X0 HT HS HF HW Fb
    go_wp2
    go_ret
    exact ⟨.inr ⟨H1.out, rfl, HQ.out.1⟩, HQ.out.2.2, HQ.out.2.1⟩
end Go.Proofs.YtgalgjmhdbncbaaGreat
