import Derived.Test.YtgalgjmhdbncbaaGreatZf37
namespace Go.Proofs.YtgalgjmhdbncbaaGreat
open Go.RowKit
attribute [local go_sem ↓] Go.wp_at_zero Go.wp_at_succ

theorem heap_ltF {w : World} {g : Nat} {cs : Array Value} {t : TypeId} (h : w.heap[g]? = some (.cells cs t (0, 0))) : g < w.heap.size := by
  rcases Nat.lt_or_ge g w.heap.size with hlt | hge
  · exact hlt
  · rw [Array.getElem?_eq_none hge] at h; cases h
theorem RgR.set4 {w : World} {g sx t : Nat} {K : Nat → Ky} {sg : Value} {ov : Bool} (h : RgR w g sx t K sg ov) (id : Nat) (hid : id < 4) (k : Ky) : RgR ((((w.setCell ⟨g, 2 + id * 4, none⟩ (.int .i64 k.there)).setCell ⟨g, 2 + id * 4 + 1, none⟩ (.int .i64 k.ret)).setCell ⟨g, 2 + id * 4 + 2, none⟩ (.int .i64 k.seals)).setCell ⟨g, 2 + id * 4 + 3, none⟩ (.int .i64 k.given)) g sx t (setK K id k) sg ov := by
  have h1 := h.setKy id 0 hid (by omega) ⟨k.there, (K id).ret, (K id).seals, (K id).given⟩ (by
    intro i hi hne
    rcases (by omega : i = 1 ∨ i = 2 ∨ i = 3) with rfl | rfl | rfl <;> rfl)
  have h2 := h1.setKy id 1 hid (by omega) ⟨k.there, k.ret, (K id).seals, (K id).given⟩ (by
    intro i hi hne
    rw [setK_at]
    rcases (by omega : i = 0 ∨ i = 2 ∨ i = 3) with rfl | rfl | rfl <;> rfl)
  have h3 := h2.setKy id 2 hid (by omega) ⟨k.there, k.ret, k.seals, (K id).given⟩ (by
    intro i hi hne
    rw [setK_at]
    rcases (by omega : i = 0 ∨ i = 1 ∨ i = 3) with rfl | rfl | rfl <;> rfl)
  have h4 := h3.setKy id 3 hid (by omega) k (by
    intro i hi hne
    rw [setK_at]
    rcases (by omega : i = 0 ∨ i = 1 ∨ i = 2) with rfl | rfl | rfl <;> rfl)
  have e : ∀ a b c, setK (setK (setK (setK K id a) id b) id c) id k = setK K id k := by
    intro a b c
    funext j
    unfold setK
    split <;> rfl
  rw [e] at h4
  exact h4
def ResP (D : Nat → Cl) (K K' : Nat → Ky) (id : Nat) : Prop := ((∀ j, j < 8 → ¬ ((D j).st ≠ 0 ∧ (D j).id = id)) ∧ K' id = zKy) ∨ ∃ j, j < 8 ∧ (D j).st ≠ 0 ∧ (D j).id = id ∧ K' id = ⟨1, if (D j).st = 2 then 1 else 0, (K id).seals, (K id).given⟩
theorem Dk.resolve {D : Nat → Cl} {K K' : Nat → Ky} {G : List Gv} {top : Nat → Nat} (h : Dk D K G top) (hr : ∀ id, id < 4 → ResP D K K' id) : Dk D K' G top := by
  have hit : ∀ j, j < 8 → (D j).st ≠ 0 → K' (D j).id = ⟨1, if (D j).st = 2 then 1 else 0, (K (D j).id).seals, (K (D j).id).given⟩ := by
    intro j hj h0
    rcases hr (D j).id (h.ok j hj h0).id with ⟨hn, _⟩ | ⟨i, hi, a, b, e⟩
    · exact absurd ⟨h0, rfl⟩ (hn j hj)
    · have := h.uq i j hi hj a h0 b
      subst this
      exact e
  refine ⟨h.uq, fun j hj h0 => ?_, fun id hid h1 => ?_, fun id hid => ?_, fun id hid h1 => ?_, fun g hg => ?_⟩
  · have ck := h.ok j hj h0
    have hst := ck.ok.st
    rw [hit j hj h0]
    refine ⟨ck.ok, ck.id, ck.fix, ck.most, by show (1 : Nat) ≠ 0; omega, ck.seals, ck.top, fun e => ?_, fun e => ?_⟩
    · dsimp only at e
      split at e
      · assumption
      · omega
    · dsimp only at e
      split at e
      · omega
      · omega
  · rcases hr id hid with ⟨_, e⟩ | ⟨j, hj, a, b, _⟩
    · rw [e] at h1; simp [zKy] at h1
    · exact ⟨j, hj, a, b⟩
  · rcases hr id hid with ⟨_, e⟩ | ⟨j, hj, a, b, e⟩
    · rw [e]; exact Nat.zero_le _
    · rw [e]; exact h.gt id hid
  · rcases hr id hid with ⟨hn, e⟩ | ⟨j, hj, a, b, e⟩
    · rw [e]
      refine ⟨rfl, (h.ny id hid fun e1 => ?_).2⟩
      obtain ⟨j, hj, a, b⟩ := h.th id hid e1
      exact hn j hj ⟨a, b⟩
    · rw [e] at h1; simp at h1
  · obtain ⟨c, n, a⟩ := h.gv g hg
    refine ⟨c, n, a.id, ?_, a.ok, a.st, a.ci, a.fix, a.lt, a.z, a.tx, a.key⟩
    obtain ⟨j, hj, b1, b2⟩ := h.th g.id a.id a.there
    rw [← b2, hit j hj b1]
theorem ri_start {S : Sto} {K K' : Nat → Ky} {G : List Gv} {top : Nat → Nat} (cs : Cs S) (h : Dk (fun j => ofC (S.cell j)) K G top) (le : S.left ≤ 9223372036854775807) (hr : ∀ id, id < 4 → ResP (fun j => ofC (S.cell j)) K K' id) (t : Nat) : RI { S with tab := some t } t (stH S 8) K' G false top := by
  have hst : ∀ j, j < 8 → stH S 8 j = ⟨ofC (S.cell j), (ofC (S.cell j)).res⟩ := fun j hj => by unfold stH; rw [if_pos hj]
  have d := h.resolve hr
  refine ⟨cs, d, fun _ => ⟨rfl, fun j hj => by rw [hst j hj], fun j hj h0 => ?_, fun j hj h0 => ?_, fun id hid => ?_⟩, fun e => by simp at e, le, fun j hj h0 => ?_, fun j hj h0 => ?_⟩
  · rw [hst j hj] at h0 ⊢
    exact ⟨(h.ok j hj h0).top, Nat.le_refl _⟩
  · rw [hst j hj] at h0 ⊢
    dsimp only at h0 ⊢
    rcases (cs j hj).1 with hz | ⟨_, _, _, _, _, h6⟩
    · have : S.cell j = ⟨#[]⟩ := (empty_iff _).1 hz
      rw [this]; rfl
    · exfalso
      unfold ofC at h0
      split at h0
      · rename_i hz; omega
      · rcases h6 with ⟨e, _⟩ | ⟨e, _⟩ <;> omega
  · rcases hr id hid with ⟨_, e⟩ | ⟨j, hj, a, b, e⟩
    · rw [e]; exact ⟨Nat.zero_le _, Nat.zero_le _⟩
    · rw [e]
      refine ⟨Nat.le_refl _, ?_⟩
      dsimp only
      split <;> omega
  · rw [hst j hj] at h0 ⊢
    exact (h.ok j hj h0).ok
  · rw [hst j hj] at h0 ⊢
    have ck := h.ok j hj h0
    have := ck.ok.res
    obtain ⟨⟨_, q⟩, _⟩ := ck.ok.cfg
    dsimp only at *
    omega
theorem dk_start {S : Sto} {K : Nat → Ky} {G : List Gv} {top : Nat → Nat} (cs : Cs S) (h : Dk (fun j => ofC (S.cell j)) K G top) : ∀ j, j < 8 → CellOk S j := by
  intro j hj
  refine ⟨(cs j hj).1, fun h0 i hi hh => ?_⟩
  have := h.uq i j (by omega) hj hh.1 h0 hh.2
  omega
set_option maxRecDepth 100000 in
set_option maxHeartbeats 8000000 in
theorem starts_any (w : World) (B g sx t0 : Nat) (S : Sto) (K : Nat → Ky) (G : List Gv) (ov : Bool) (sg : Value) (top : Nat → Nat) (hB : B ≤ w.heap.size) (h : Rn0 w B g sx t0 S K G ov sg top) :
    Calls Tryz.prog 11 #[ptr g] w fun e w' => e = .returned (.bool true) ∧ (∃ t S' H K', Rng w' B g sx t S' H K' G false sg top ∧ S'.left = S.left) ∧ Below B w w' := by
  have h1 := fun w hs => start_any sx S (fun j hj => by have := (h.cs j hj).2; unfold maxLen; omega) w hs
  have h2 := fun t id w ht => status_any t sx (stH S 8) id w ht
  have hok := dk_start h.cs h.dk
  unfold ptr at h1 h2 ⊢
  have H1 : Hid _ := h1
  have H2 : Hid _ := h2
  have HOK : Hid _ := hok
  have HX : Hid _ := h
  have lg := Row.lt h.r
  have ls := Row.lt h.s
  have nn : g ≠ sx := ne_rowsF h.r h.s (by decide)
  have c0 := h.r.at0
  have HNN : Hid _ := nn
  clear h1 h2 hok h nn
  go_enter Tryz.func11, Tryz.ntmps11
  go_wp2_with fail
  refine (H1.out _ HX.out.s).mono ?_
  rintro e w1 ⟨⟨_, t, ht, rfl, p1, tp1⟩ | ⟨hbad, _⟩, f1⟩
  · have R1 := HX.out.r.fr f1 (by simpa using HNN.out)
    have c1 := R1.at1
    have z1 := Row.frozen R1 1
    have R2 := R1.set1 t
    have c19 := R2.at19
    have z19 := Row.frozen R2 19
    have R3 := R2.set19 false
    have F3 : Fr [g] w1 ((w1.setCell ⟨g, 1, none⟩ (.pointer (some ⟨t, 0, none⟩))).setCell ⟨g, 19, none⟩ (.bool false)) := Fr.setCell (Fr.setCell (Fr.refl _ _) (.inr (by simp)) _) (.inr (by simp)) _
    have HM : Hid _ := And.intro p1 (And.intro tp1 (And.intro f1 (And.intro R3 (And.intro F3 ht))))
    clear p1 tp1 f1 R1 R2 R3 F3
    go_wp2
    clear c0 c1 z1 c19 z19
    go_loopw [5, 6, 7, 8, 9] (fun i _ _ _ _ wr => ∃ (k : Nat) (K' : Nat → Ky), k ≤ 4 ∧ i = .int .i64 k ∧ RgR wr g sx t K' sg false ∧ Fr [g] w1 wr ∧ Hid ((∀ id, id < k → ResP (fun j => ofC (S.cell j)) K K' id) ∧ ∀ id, k ≤ id → K' id = K id)) (fun i _ _ _ _ _ => 4 - (intOf i).toNat)
    case atStart => exact ⟨0, K, by omega, rfl, HM.out.2.2.2.1, HM.out.2.2.2.2.1, fun id hid => by omega, fun _ _ => rfl⟩
    case round =>
      obtain ⟨k, K', hk, rfl, hR, hF, HK⟩ := hrel
      have HR : Hid _ := And.intro hR hF
      by_cases hk4 : k < 4
      · have ngt : g ≠ t := by
          have := HM.out.2.2.2.2.2
          omega
        have tpr := Row.fr HM.out.2.1 hF (by simp; omega)
        obtain ⟨k0, k1, k2, k3⟩ := hR.key k hk4
        have eK := HK.out.2 k (Nat.le_refl _)
        rw [eK] at k0 k1 k2 k3
        have f0 := Row.frozen hR (2 + k * 4)
        have f1 := Row.frozen hR (2 + k * 4 + 1)
        have f2 := Row.frozen hR (2 + k * 4 + 2)
        have f3 := Row.frozen hR (2 + k * 4 + 3)
        have F0 : Fr [] wr (wr.alloc (.cells #[.int .i64 (K k).there, .int .i64 (K k).ret, .int .i64 (K k).seals, .int .i64 (K k).given] 35)) := (Fr.refl _ _).alloc _
        have q0 : (wr.alloc (.cells #[.int .i64 (K k).there, .int .i64 (K k).ret, .int .i64 (K k).seals, .int .i64 (K k).given] 35)).heap[wr.heap.size]? = some (.cells #[.int .i64 (K k).there, .int .i64 (K k).ret, .int .i64 (K k).seals, .int .i64 (K k).given] 35 (0, 0)) := heap_of_new _ _ _ rfl
        have hs2 := H2.out t (k : Int) _ (Row.fr tpr F0 (by simp))
        have HS2 : Hid _ := hs2
        have HQ0 : Hid _ := And.intro q0 (And.intro F0 (And.intro eK tpr))
        clear hs2 q0 F0 hR hF eK tpr
        go_wp2_with fail
        refine Calls.mono HS2.out ?_
        rintro e w2 ⟨hcase, b2⟩
        obtain ⟨q0, F0, eK, tpr⟩ := HQ0.out
        have F2 : Fr [] wr w2 := F0.trans (Fr.of_below [] b2 (Nat.le_refl _))
        have qq := keepRow (Fr.of_below [] b2 (Nat.le_refl _)) q0 (by simp)
        have lq := heap_ltF qq
        clear q0 F0 tpr b2 k0 k1 k2 k3 f0 f1 f2 f3 HS2
        rcases hcase with ⟨i, hi, hh, _, rfl⟩ | ⟨hn, rfl⟩
        · have hst : stH S 8 i = ⟨ofC (S.cell i), (ofC (S.cell i)).res⟩ := by unfold stH; rw [if_pos hi]
          have hh' : (ofC (S.cell i)).st ≠ 0 ∧ (ofC (S.cell i)).id = k := by
            unfold hit at hh
            rw [hst] at hh
            exact ⟨hh.1, by have := hh.2; dsimp only at this; omega⟩
          have ck := HX.out.dk.ok i hi hh'.1
          rw [hh'.2] at ck
          have hgt := HX.out.dk.gt k hk4
          rw [hst]
          unfold stA
          dsimp only
          obtain ⟨rb, hrb⟩ : ∃ rb, decide ((ofC (S.cell i)).st = 2) = rb := ⟨_, rfl⟩
          rw [hrb]
          obtain ⟨ctr, hctr⟩ : ∃ c, (ofC (S.cell i)).res = c := ⟨_, rfl⟩
          obtain ⟨al, hal⟩ : ∃ c, (ofC (S.cell i)).alg = c := ⟨_, rfl⟩
          rw [hctr, hal]
          have ht0 : (((K k).there : Int) == 0) = false := by rw [beq_eq_false_iff_ne]; have := ck.there; omega
          have htt : (K k).there = 1 ∨ (((K k).there : Int) == 1) = false := by
            by_cases e : (K k).there = 1
            · exact .inl e
            · refine .inr ?_
              rw [beq_eq_false_iff_ne]; omega
          have hlt1 : ¬ ((ctr : Int) < ((K k).given : Int)) := by have := ck.top; omega
          have hlt2 : ¬ (((K k).seals : Int) < (ctr : Int)) := by have := ck.ok.res; have := ck.seals; omega
          have HRS : Hid (ResP (fun j => ofC (S.cell j)) K (setK K' k ⟨1, if rb then 1 else 0, (K k).seals, (K k).given⟩) k) := by
            refine .inr ⟨i, hi, hh'.1, hh'.2, ?_⟩
            rw [setK_at, ← hrb]
            by_cases h2 : (ofC (S.cell i)).st = 2
            · simp [h2]
            · simp [h2]
          have hrr : ((K k).ret = 0 ∧ rb = false) ∨ ((K k).ret = 1 ∧ rb = true) ∨ ((((K k).ret : Int) == 1) = false ∧ (((K k).ret : Int) == 0) = false) := by
            rcases (by omega : (K k).ret = 0 ∨ (K k).ret = 1 ∨ 2 ≤ (K k).ret) with e | e | e
            · have := ck.r0 e
              exact .inl ⟨e, by rw [← hrb]; exact decide_eq_false (by omega)⟩
            · have := ck.r1 e
              exact .inr (.inl ⟨e, by rw [← hrb]; exact decide_eq_true this⟩)
            · refine .inr (.inr ⟨?_, ?_⟩) <;> rw [beq_eq_false_iff_ne] <;> omega
          have q2 := keepRow ((Fr.refl [] w2).alloc (.cells #[.int .i64 al, .int .i64 ctr, .int .i64 ctr, .bool rb] 68)) qq (by simp)
          obtain ⟨y0, y1, y2, y3⟩ := cells4K q2
          have F3 := F2.alloc (.cells #[.int .i64 al, .int .i64 ctr, .int .i64 ctr, .bool rb] 68)
          have R3 := HR.out.1.fr F3 (by simp)
          obtain ⟨k0, k1, k2, k3⟩ := R3.key k hk4
          have f0 := Row.frozen R3 (2 + k * 4)
          have R4 := R3.setKy k 0 hk4 (by omega) ⟨1, (K' k).ret, (K' k).seals, (K' k).given⟩ (by
            intro i hi hne
            rcases (by omega : i = 1 ∨ i = 2 ∨ i = 3) with rfl | rfl | rfl <;> rfl)
          have R4' : RgR ((w2.alloc (.cells #[.int .i64 al, .int .i64 ctr, .int .i64 ctr, .bool rb] 68)).setCell ⟨g, 2 + k * 4, none⟩ (.int .i64 1)) g sx t _ sg false := R4
          obtain ⟨j0, j1, j2, j3⟩ := R4'.key k hk4
          have g1 := Row.frozen R4' (2 + k * 4 + 1)
          have R5 := R4'.setKy k 1 hk4 (by omega) ⟨1, 0, (K' k).seals, (K' k).given⟩ (by
            intro i hi hne
            rw [setK_at]
            rcases (by omega : i = 0 ∨ i = 2 ∨ i = 3) with rfl | rfl | rfl <;> rfl)
          have R5' : RgR (((w2.alloc (.cells #[.int .i64 al, .int .i64 ctr, .int .i64 ctr, .bool rb] 68)).setCell ⟨g, 2 + k * 4, none⟩ (.int .i64 1)).setCell ⟨g, 2 + k * 4 + 1, none⟩ (.int .i64 0)) g sx t _ sg false := R5
          obtain ⟨i0, i1, i2, i3⟩ := R5'.key k hk4
          have g2 := Row.frozen R5' (2 + k * 4 + 1)
          have R6 := R5'.setKy k 1 hk4 (by omega) ⟨1, 1, (K' k).seals, (K' k).given⟩ (by
            intro i hi hne
            rw [setK_at]
            rcases (by omega : i = 0 ∨ i = 2 ∨ i = 3) with rfl | rfl | rfl <;> rfl)
          have F5 : Fr [g] w2 (((w2.alloc (.cells #[.int .i64 al, .int .i64 ctr, .int .i64 ctr, .bool rb] 68)).setCell ⟨g, 2 + k * 4, none⟩ (.int .i64 1)).setCell ⟨g, 2 + k * 4 + 1, none⟩ (.int .i64 0)) := Fr.setCell (Fr.setCell ((Fr.refl _ _).alloc _) (.inr (by simp)) _) (.inr (by simp)) _
          have F6 : Fr [g] w2 ((((w2.alloc (.cells #[.int .i64 al, .int .i64 ctr, .int .i64 ctr, .bool rb] 68)).setCell ⟨g, 2 + k * 4, none⟩ (.int .i64 1)).setCell ⟨g, 2 + k * 4 + 1, none⟩ (.int .i64 0)).setCell ⟨g, 2 + k * 4 + 1, none⟩ (.int .i64 1)) := Fr.setCell F5 (.inr (by simp)) _
          have lgw : g < w2.heap.size := Nat.lt_of_lt_of_le (Row.lt HR.out.1) F2.size
          have QB : (((w2.alloc (.cells #[.int .i64 al, .int .i64 ctr, .int .i64 ctr, .bool rb] 68)).setCell ⟨g, 2 + k * 4, none⟩ (.int .i64 1)).setCell ⟨g, 2 + k * 4 + 1, none⟩ (.int .i64 0)).heap[w2.heap.size]? = some (.cells #[.int .i64 al, .int .i64 ctr, .int .i64 ctr, .bool rb] 68 (0, 0)) := by
            rw [heap_skip _ _ _ _ _ (by omega), heap_skip _ _ _ _ _ (by omega)]
            exact heap_of_new _ _ _ rfl
          obtain ⟨v0, v1, v2, v3⟩ := cells4K QB
          have HZ : Hid _ := And.intro R5' (And.intro R6 (And.intro F5 (And.intro F6 (And.intro F2 eK))))
          rw [setK_at] at j1 i1
          have fin : ∀ (W : World) (K2 : Nat → Ky), (∀ j, K2 j = setK K' k ⟨1, if rb then 1 else 0, (K k).seals, (K k).given⟩ j) → RgR W g sx t K2 sg false → Fr [g] w2 W → ∃ (k' : Nat) (K'' : Nat → Ky), k' ≤ 4 ∧ Value.int .i64 ((k : Int) + 1) = .int .i64 k' ∧ RgR W g sx t K'' sg false ∧ Fr [g] w1 W ∧ Hid ((∀ id, id < k' → ResP (fun j => ofC (S.cell j)) K K'' id) ∧ ∀ id, k' ≤ id → K'' id = K id) := by
            intro W K2 hK2 hW hFW
            have e3 : K2 = setK K' k ⟨1, if rb then 1 else 0, (K k).seals, (K k).given⟩ := funext hK2
            rw [e3] at hW
            refine ⟨k + 1, _, by omega, by go_num, hW, (HR.out.2.trans (F2.sub (by simp))).trans hFW, fun id hid => ?_, fun id hid => ?_⟩
            · by_cases e : id = k
              · rw [e]; exact HRS.out
              · rcases HK.out.1 id (by omega) with ⟨a, b⟩ | ⟨j, a, b, c, d⟩
                · exact .inl ⟨a, by rw [setK_ne _ _ _ _ e]; exact b⟩
                · exact .inr ⟨j, a, b, c, by rw [setK_ne _ _ _ _ e]; exact d⟩
            · rw [setK_ne _ _ _ _ (by omega)]
              exact HK.out.2 id (by omega)
          have eq0 : ∀ (n : Nat) (j : Nat), setK (setK K' k ⟨1, (K' k).ret, (K' k).seals, (K' k).given⟩) k ⟨1, n, (K' k).seals, (K' k).given⟩ j = setK K' k ⟨1, n, (K k).seals, (K k).given⟩ j := by
            intro n j
            unfold setK
            split
            · rw [eK]
            · rfl
          have eq1 : ∀ (m n : Nat) (j : Nat), setK (setK (setK K' k ⟨1, (K' k).ret, (K' k).seals, (K' k).given⟩) k ⟨1, m, (K' k).seals, (K' k).given⟩) k ⟨1, n, (K' k).seals, (K' k).given⟩ j = setK K' k ⟨1, n, (K k).seals, (K k).given⟩ j := by
            intro m n j
            unfold setK
            split
            · rw [eK]
            · rfl
          have HEQ : Hid _ := And.intro eq0 eq1
          have HFN : Hid _ := fin
          clear fin eq0 eq1 QB v0 v1 v2 lgw HRS hh hst hh' ck hgt hrb hctr hal R3 R4 R4' R5 R5' R6 F5 F6 F2 F3 eK qq q2
          rcases hrr with ⟨e1, e2⟩ | ⟨e1, e2⟩ | ⟨e1, e2⟩
          · subst e2
            rw [e1] at y1
            clear e1
            rcases htt with et | et
            · rw [et] at y0
              clear et ht0
              go_wp2
              exact ⟨HFN.out _ _ (fun j => HEQ.out.1 0 j) HZ.out.1 HZ.out.2.2.1, by simp [intOf]; omega⟩
            · go_wp2
              exact ⟨HFN.out _ _ (fun j => HEQ.out.1 0 j) HZ.out.1 HZ.out.2.2.1, by simp [intOf]; omega⟩
          · subst e2
            rw [e1] at y1
            clear e1
            rcases htt with et | et
            · rw [et] at y0
              clear et ht0
              go_wp2
              exact ⟨HFN.out _ _ (fun j => HEQ.out.2 0 1 j) HZ.out.2.1 HZ.out.2.2.2.1, by simp [intOf]; omega⟩
            · go_wp2
              exact ⟨HFN.out _ _ (fun j => HEQ.out.2 0 1 j) HZ.out.2.1 HZ.out.2.2.2.1, by simp [intOf]; omega⟩
          · cases rb
            · skip
              rcases htt with et | et
              · rw [et] at y0
                clear et ht0
                go_wp2
                exact ⟨HFN.out _ _ (fun j => HEQ.out.1 0 j) HZ.out.1 HZ.out.2.2.1, by simp [intOf]; omega⟩
              · go_wp2
                exact ⟨HFN.out _ _ (fun j => HEQ.out.1 0 j) HZ.out.1 HZ.out.2.2.1, by simp [intOf]; omega⟩
            · skip
              rcases htt with et | et
              · rw [et] at y0
                clear et ht0
                go_wp2
                exact ⟨HFN.out _ _ (fun j => HEQ.out.2 0 1 j) HZ.out.2.1 HZ.out.2.2.2.1, by simp [intOf]; omega⟩
              · go_wp2
                exact ⟨HFN.out _ _ (fun j => HEQ.out.2 0 1 j) HZ.out.2.1 HZ.out.2.2.2.1, by simp [intOf]; omega⟩
        · have hnr : (K k).there ≠ 1 := fun e => by
            obtain ⟨j, hj, a, b⟩ := HX.out.dk.th k hk4 e
            refine hn j hj ⟨?_, ?_⟩
            · unfold stH; rw [if_pos hj]; exact a
            · unfold stH; rw [if_pos hj]; dsimp only at b ⊢; rw [b]
          have ht1 : (((K k).there : Int) == 1) = false := by rw [beq_eq_false_iff_ne]; omega
          unfold stA
          have q2 := keepRow ((Fr.refl [] w2).alloc (.cells #[.int .i64 0, .int .i64 0, .int .i64 0, .bool false] 68)) qq (by simp)
          obtain ⟨y0, y1, y2, y3⟩ := cells4K q2
          have F3 := F2.alloc (.cells #[.int .i64 0, .int .i64 0, .int .i64 0, .bool false] 68)
          have R3 := HR.out.1.fr F3 (by simp)
          obtain ⟨k0, k1, k2, k3⟩ := R3.key k hk4
          have f0 := Row.frozen R3 (2 + k * 4)
          have f1 := Row.frozen R3 (2 + k * 4 + 1)
          have f2 := Row.frozen R3 (2 + k * 4 + 2)
          have f3 := Row.frozen R3 (2 + k * 4 + 3)
          have HZ : Hid _ := And.intro R3 (And.intro F3 (And.intro F2 (And.intro hn eK)))
          clear R3 F3 F2 hn eK qq q2 hnr
          by_cases h0 : (K k).there = 0
          · rw [h0] at y0
            clear ht1 h0
            go_wp2
            obtain ⟨R3, F3, F2, hn, eK⟩ := HZ.out
            have R4 := R3.set4 k hk4 zKy
            have F4 : Fr [g] w2 (((((w2.alloc (.cells #[.int .i64 0, .int .i64 0, .int .i64 0, .bool false] 68)).setCell ⟨g, 2 + k * 4, none⟩ (.int .i64 0)).setCell ⟨g, 2 + k * 4 + 1, none⟩ (.int .i64 0)).setCell ⟨g, 2 + k * 4 + 2, none⟩ (.int .i64 0)).setCell ⟨g, 2 + k * 4 + 3, none⟩ (.int .i64 0)) := Fr.setCell (Fr.setCell (Fr.setCell (Fr.setCell ((Fr.refl _ _).alloc _) (.inr (by simp)) _) (.inr (by simp)) _) (.inr (by simp)) _) (.inr (by simp)) _
            refine ⟨⟨k + 1, _, by omega, by go_num, R4, (HR.out.2.trans (F2.sub (by simp))).trans F4, fun id hid => ?_, fun id hid => ?_⟩, by simp [intOf]; omega⟩
            · by_cases e : id = k
              · rw [e]
                refine .inl ⟨fun j hj hh => hn j hj ⟨?_, ?_⟩, setK_at _ _ _⟩
                · unfold stH; rw [if_pos hj]; exact hh.1
                · have := hh.2
                  unfold stH; rw [if_pos hj]; dsimp only at this ⊢; rw [this]
              · rcases HK.out.1 id (by omega) with ⟨a, b⟩ | ⟨j, a, b, c, d⟩
                · exact .inl ⟨a, by rw [setK_ne _ _ _ _ e]; exact b⟩
                · exact .inr ⟨j, a, b, c, by rw [setK_ne _ _ _ _ e]; exact d⟩
            · rw [setK_ne _ _ _ _ (by omega)]
              exact HK.out.2 id (by omega)
          · have ht0 : (((K k).there : Int) == 0) = false := by rw [beq_eq_false_iff_ne]; omega
            clear h0
            go_wp2
            obtain ⟨R3, F3, F2, hn, eK⟩ := HZ.out
            have R4 := R3.set4 k hk4 zKy
            have F4 : Fr [g] w2 (((((w2.alloc (.cells #[.int .i64 0, .int .i64 0, .int .i64 0, .bool false] 68)).setCell ⟨g, 2 + k * 4, none⟩ (.int .i64 0)).setCell ⟨g, 2 + k * 4 + 1, none⟩ (.int .i64 0)).setCell ⟨g, 2 + k * 4 + 2, none⟩ (.int .i64 0)).setCell ⟨g, 2 + k * 4 + 3, none⟩ (.int .i64 0)) := Fr.setCell (Fr.setCell (Fr.setCell (Fr.setCell ((Fr.refl _ _).alloc _) (.inr (by simp)) _) (.inr (by simp)) _) (.inr (by simp)) _) (.inr (by simp)) _
            refine ⟨⟨k + 1, _, by omega, by go_num, R4, (HR.out.2.trans (F2.sub (by simp))).trans F4, fun id hid => ?_, fun id hid => ?_⟩, by simp [intOf]; omega⟩
            · by_cases e : id = k
              · rw [e]
                refine .inl ⟨fun j hj hh => hn j hj ⟨?_, ?_⟩, setK_at _ _ _⟩
                · unfold stH; rw [if_pos hj]; exact hh.1
                · have := hh.2
                  unfold stH; rw [if_pos hj]; dsimp only at this ⊢; rw [this]
              · rcases HK.out.1 id (by omega) with ⟨a, b⟩ | ⟨j, a, b, c, d⟩
                · exact .inl ⟨a, by rw [setK_ne _ _ _ _ e]; exact b⟩
                · exact .inr ⟨j, a, b, c, by rw [setK_ne _ _ _ _ e]; exact d⟩
            · rw [setK_ne _ _ _ _ (by omega)]
              exact HK.out.2 id (by omega)
      · have : k = 4 := by omega
        subst this
        go_wp2
        go_ret
        obtain ⟨p1, tp1, f1, R3, F3, ht⟩ := HM.out
        have h := HX.out
        have nn : g ≠ sx := HNN.out
        have ngt : g ≠ t := by omega
        have nsg : ∀ b, sg.ownBlock = some b → b ≠ g ∧ b ≠ sx := by
          intro b hb
          rcases h.o.2 with ⟨rfl, _⟩ | ⟨q, cap, cur, rfl, _, hr, _⟩
          · simp [Value.ownBlock] at hb
          · simp only [Value.ownBlock, Option.some.injEq] at hb
            subst hb
            exact ⟨ne_rowsF hr h.r (by decide), ne_rowsF hr h.s (by decide)⟩
        have o1 := ownsFr h.o f1 (fun b hb => by simpa using (nsg b hb).2)
        have hB1 := Nat.le_trans hB f1.size
        refine ⟨rfl, ⟨t, _, _, K', ⟨HR.out.1, Row.fr p1 HR.out.2 (by simp; omega), Row.fr tp1 HR.out.2 (by simp; omega), ownsFr o1 HR.out.2 (fun b hb => by simpa using (nsg b hb).1), ri_start h.cs h.dk h.le (fun id hid => HK.out.1 id hid) t, h.bg, h.bs, by omega⟩, rfl⟩, (f1.low hB (by simp; exact h.bs)).trans (HR.out.2.low hB1 (by simp; exact h.bg))⟩
  · exact absurd HOK.out hbad
end Go.Proofs.YtgalgjmhdbncbaaGreat
