import Derived.Test.YtgalgjmhdbncbaaGreatS1
namespace Go.Proofs.YtgalgjmhdbncbaaGreat
open Go.RowKit
attribute [local go_sem ↓] Go.wp_at_zero Go.wp_at_succ

theorem StoR.setWrites {w : World} {g gc : Nat} {d : Bool} {R : RSt} (h : Row w g 6 168 (refV gc R d)) (n : Nat) : Row (w.setCell ⟨g, 1, none⟩ (.int .i64 n)) g 6 168 (refV gc { R with writes := n } d) := by
  refine Row.congr (Row.set h 1 _) (fun j hj => ?_)
  by_cases e : j = 1
  · subst e; simp [refV]
  · simp [refV, e]
theorem StoR.setDue {w : World} {g gc : Nat} {d : Bool} {R : RSt} (h : Row w g 6 168 (refV gc R d)) (n : Nat) : Row (w.setCell ⟨g, 2, none⟩ (.int .i64 n)) g 6 168 (refV gc { R with due := n } d) := by
  refine Row.congr (Row.set h 2 _) (fun j hj => ?_)
  by_cases e : j = 2
  · subst e; simp [refV]
  · simp [refV, e]
theorem StoR.setDone {w : World} {g gc : Nat} {d : Bool} {R : RSt} (h : Row w g 6 168 (refV gc R d)) (b : Bool) : Row (w.setCell ⟨g, 3, none⟩ (.bool b)) g 6 168 (refV gc R b) := by
  refine Row.congr (Row.set h 3 _) (fun j hj => ?_)
  by_cases e : j = 3
  · subst e; simp [refV]
  · simp [refV, e]
theorem StoR.setCell {w : World} {gc : Nat} {c : Nat → ByteArray} (h : Row w gc 8 9 (fun j => .string (c j))) (k : Nat) (x : ByteArray) : Row (w.setCell ⟨gc, k, none⟩ (.string x)) gc 8 9 (fun j => .string ((fun j => if j = k then x else c j) j)) := by
  refine Row.congr (Row.set h k _) (fun j hj => ?_)
  by_cases e : j = k
  · subst e; simp
  · simp [e]
def wroteR (i : Int) (x : ByteArray) (R : RSt) : RSt := if inCell i = false then R else if 64 < x.size then R else { R with writes := R.writes + 1 }
theorem notIn (i : Int) (h : inCell i = false) : i < 0 ∨ 8 ≤ i := by
  have : ¬ (0 ≤ i ∧ i < 8) := by simpa [inCell] using h
  omega
set_option maxRecDepth 100000 in
set_option maxHeartbeats 1000000 in
theorem refWrite_any (g gc : Nat) (S : Sto) (R : RSt) (i : Int) (x : ByteArray) (hw : R.writes < 4611686018427387904) (w : World) (h : StoR w g gc S R) :
    Calls Tryz.prog 63 #[ptr g, .int .i64 i, .string x] w fun e w' => e = .returned (.int .i64 (writeM S i x)) ∧ StoR w' g gc (wroteM S i x) (wroteR i x R) ∧ Fr [g, gc] w w' := by
  unfold writeM wroteM wroteR
  by_cases hi : inCell i = false
  · rw [if_pos hi, if_pos hi, if_pos hi]
    unfold ptr
    rcases notIn i hi with hi | hi
    · go_enter Tryz.func63, Tryz.ntmps63
      go_wp2
      go_ret
      exact ⟨rfl, h, Fr.refl _ _⟩
    · have hn : (decide (i < 0)) = false := by simp; omega
      go_enter Tryz.func63, Tryz.ntmps63
      go_wp2
      go_ret
      exact ⟨rfl, h, Fr.refl _ _⟩
  · rw [if_neg hi, if_neg hi, if_neg hi]
    have hi : inCell i = true := by simpa using hi
    have hi' : 0 ≤ i ∧ i < 8 := by simpa [inCell] using hi
    obtain ⟨k, rfl⟩ : ∃ k : Nat, i = k := ⟨i.toNat, by omega⟩
    have hk : k < 8 := by omega
    rw [Int.toNat_natCast]
    clear hi hi'
    by_cases hz : 64 < x.size
    · rw [if_pos hz, if_pos hz, if_pos hz]
      unfold ptr
      go_enter Tryz.func63, Tryz.ntmps63
      go_wp2
      go_ret
      exact ⟨rfl, h, Fr.refl _ _⟩
    · rw [if_neg hz, if_neg hz, if_neg hz]
      unfold ptr
      have main : ∀ (d c : Bool) (S2 : Sto) (r : Int), ((R.writes : Int) + 1 == (R.due : Int)) = d → S.done = c → r = (if d then 8 else 0) → S2 = (if d = true ∧ c = false then { S with left := S.left - 1 } else { S with left := S.left - 1, cell := fun j => if j = k then x else S.cell j }) →
          Calls Tryz.prog 63 #[.pointer (some ⟨g, 0, none⟩), .int .i64 (k : Int), .string x] w fun e w' => e = .returned (.int .i64 r) ∧ StoR w' g gc S2 { R with writes := R.writes + 1 } ∧ Fr [g, gc] w w' := by
        intro d c S2 r hd hc hr hS2
        have hne := h.ne
        have H1 : Hid _ := h
        have hl := h.left
        have f1 := Row.frozen h.r 1
        have a1 := h.at1
        have hr1 := StoR.setWrites h.r (R.writes + 1)
        have hc1 := Row.other h.c (g' := g) (k := 1) (v := .int .i64 (R.writes + 1 : Nat)) (fun e => hne e.symm)
        rw [show ((R.writes + 1 : Nat) : Int) = (R.writes : Int) + 1 by omega] at hr1 hc1
        clear h
        have hwr : IntKind.i64.wrap ((R.writes : Int) + 1) = (R.writes : Int) + 1 := by
          have := wrap_i64_ediv ((R.writes : Int) + 1) 1 (by omega) (by omega) (by omega)
          rwa [Int.ediv_one] at this
        go_enter Tryz.func63, Tryz.ntmps63
        go_wp2_with fail
        suffices H : ∀ W, Row W g 6 168 (refV gc { R with writes := R.writes + 1 } S.done) → Row W gc 8 9 (fun j => .string (S.cell j)) → Fr [g, gc] w W → Code.wp Tryz.prog _ _ _ W from H _ hr1 hc1 (Fr.setCell (Fr.refl _ _) (.inr (by simp)) _)
        clear hr1 hc1 a1 f1
        intro W hr1 hc1 hf
        have b0 : W.cell? ⟨g, 0, none⟩ = some (.slice (some ⟨gc, 0, none⟩) 8 8) := by rw [Row.cell hr1 0 (by omega)]; rfl
        have b1 : W.cell? ⟨g, 1, none⟩ = some (.int .i64 ((R.writes : Int) + 1)) := by rw [Row.cell hr1 1 (by omega)]; rfl
        have b2 : W.cell? ⟨g, 2, none⟩ = some (.int .i64 R.due) := by rw [Row.cell hr1 2 (by omega)]; rfl
        have b3 : W.cell? ⟨g, 3, none⟩ = some (.bool S.done) := by rw [Row.cell hr1 3 (by omega)]; rfl
        have ck := Row.cell hc1 k hk
        have fk := Row.frozen hc1 k
        rw [hc] at b3 hr1
        go_region
        have hf2 := hf.drew
        have hr2 := hr1.drew
        have hc2 := hc1.drew
        have hcs := StoR.setCell hc2 k x
        have hrs := Row.other hr2 (g' := gc) (k := k) (v := .string x) hne
        have hfs := Fr.setCell hf2 (a := ⟨gc, k, none⟩) (.inr (by simp)) (.string x)
        clear H1 hf hr1 hc1
        cases d <;> cases c <;> simp only [Bool.false_eq_true, if_false, if_true, and_self, and_false, and_true, reduceCtorEq] at hr hS2 <;> subst hr <;> go_wp2 <;> go_ret <;> subst hS2
        · exact ⟨rfl, ⟨by dsimp only; first | exact hrs | (rw [hc]; exact hrs), hcs, by dsimp only; omega⟩, hfs⟩
        · exact ⟨rfl, ⟨by dsimp only; first | exact hrs | (rw [hc]; exact hrs), hcs, by dsimp only; omega⟩, hfs⟩
        · exact ⟨rfl, ⟨by dsimp only; first | exact hr2 | (rw [hc]; exact hr2), hc2, by dsimp only; omega⟩, hf2⟩
        · exact ⟨rfl, ⟨by dsimp only; first | exact hrs | (rw [hc]; exact hrs), hcs, by dsimp only; omega⟩, hfs⟩
      have hl := h.left
      have hd : ((R.writes : Int) + 1 == (R.due : Int)) = decide (S.left = 1) := by
        rw [Bool.eq_iff_iff, beq_iff_eq, decide_eq_true_iff]; omega
      refine main _ _ _ _ hd rfl ?_ ?_
      · simp
      · by_cases h1 : S.left = 1 ∧ S.done = false
        · rw [if_pos h1, if_pos (by simpa using h1)]
        · rw [if_neg h1, if_neg (by simpa using h1)]
def interR (k : Int) (R : RSt) : RSt := if k < 0 then R else { R with writes := 0, due := k.toNat }
set_option maxRecDepth 100000 in
set_option maxHeartbeats 1000000 in
theorem refInterrupt_any (g gc : Nat) (S : Sto) (R : RSt) (k : Int) (d : Bool) (w : World) (h : StoR w g gc S R) :
    Calls Tryz.prog 64 #[ptr g, .int .i64 k, .bool d] w fun e w' => e = .returned (.int .i64 (if k < 0 then 1 else 0)) ∧ StoR w' g gc (interM S k d) (interR k R) ∧ Chg g w w' := by
  unfold ptr interM interR
  by_cases hk : k < 0
  · rw [if_pos hk, if_pos hk, if_pos hk]
    go_enter Tryz.func64, Tryz.ntmps64
    go_wp2
    go_ret
    exact ⟨rfl, h, Chg.refl _ _⟩
  · rw [if_neg hk, if_neg hk, if_neg hk]
    obtain ⟨n, rfl⟩ : ∃ n : Nat, k = n := ⟨k.toNat, by omega⟩
    have a1 := h.at1
    have a2 := h.at2
    have a3 := h.at3
    have f1 := Row.frozen h.r 1
    have f2 := Row.frozen h.r 2
    have f3 := Row.frozen h.r 3
    go_enter Tryz.func64, Tryz.ntmps64
    go_wp2
    go_ret
    refine ⟨rfl, ⟨StoR.setDone (StoR.setDue (StoR.setWrites h.r 0) n) d, ?_, by simp⟩, Chg.setCell (Chg.setCell (Chg.setCell (Chg.refl _ _) _ _) _ _) _ _⟩
    exact ((h.c.other (fun e => h.ne e.symm)).other (fun e => h.ne e.symm)).other (fun e => h.ne e.symm)
end Go.Proofs.YtgalgjmhdbncbaaGreat
