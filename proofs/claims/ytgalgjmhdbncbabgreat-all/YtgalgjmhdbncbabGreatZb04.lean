import Derived.Test.YtgalgjmhdbncbabGreatZb03
import Derived.Test.YtgalgjmhdbncbabGreatZb02
namespace Go.Proofs.YtgalgjmhdbncbabGreat
open Go.RowKit
attribute [local go_sem ↓] Go.wp_at_zero Go.wp_at_succ

theorem StoR.setWrites {w : World} {g gc : Nat} {d : Bool} {R : RSt} (h : Row w g 6 96 (refV gc R d)) (n : Nat) : Row (w.setCell ⟨g, 1, none⟩ (.int .i64 n)) g 6 96 (refV gc { R with writes := n } d) := by
  refine Row.congr (Row.set h 1 _) (fun j hj => ?_)
  by_cases e : j = 1
  · subst e; simp [refV]
  · simp [refV, e]
theorem StoR.setDue {w : World} {g gc : Nat} {d : Bool} {R : RSt} (h : Row w g 6 96 (refV gc R d)) (n : Nat) : Row (w.setCell ⟨g, 2, none⟩ (.int .i64 n)) g 6 96 (refV gc { R with due := n } d) := by
  refine Row.congr (Row.set h 2 _) (fun j hj => ?_)
  by_cases e : j = 2
  · subst e; simp [refV]
  · simp [refV, e]
theorem StoR.setDone {w : World} {g gc : Nat} {d : Bool} {R : RSt} (h : Row w g 6 96 (refV gc R d)) (b : Bool) : Row (w.setCell ⟨g, 3, none⟩ (.bool b)) g 6 96 (refV gc R b) := by
  refine Row.congr (Row.set h 3 _) (fun j hj => ?_)
  by_cases e : j = 3
  · subst e; simp [refV]
  · simp [refV, e]
theorem StoR.setCell {w : World} {gc : Nat} {c : Nat → ByteArray} (h : Row w gc 8 9 (fun j => .string (c j))) (k : Nat) (x : ByteArray) : Row (w.setCell ⟨gc, k, none⟩ (.string x)) gc 8 9 (fun j => .string ((fun j => if j = k then x else c j) j)) := by
  refine Row.congr (Row.set h k _) (fun j hj => ?_)
  by_cases e : j = k
  · subst e; simp
  · simp [e]
def wroteR (i : Int) (x : ByteArray) (R : RSt) : RSt := if inCell i = false then R else if 64 < x.size then R else { R with writes := R.writes + 1 }
theorem notIn (i : Int) (h : inCell i = false) : i < 0 ∨ 8 ≤ i := by
  have : ¬ (0 ≤ i ∧ i < 8) := by simpa [inCell] using h
  omega
set_option maxRecDepth 100000 in
set_option maxHeartbeats 1000000 in
theorem refWrite_any (g gc : Nat) (S : Sto) (R : RSt) (i : Int) (x : ByteArray) (hw : R.writes < 4611686018427387904) (w : World) (h : StoR w g gc S R) :
    Calls Tryz.prog 23 #[ptr g, .int .i64 i, .string x] w fun e w' => e = .returned (.int .i64 (writeM S i x)) ∧ StoR w' g gc (wroteM S i x) (wroteR i x R) ∧ Fr [g, gc] w w' := by
  unfold writeM wroteM wroteR
  by_cases hi : inCell i = false
  · rw [if_pos hi, if_pos hi, if_pos hi]
    unfold ptr
    rcases notIn i hi with hi | hi
    · go_enter Tryz.func23, Tryz.ntmps23
      go_wp2
      go_ret
      exact ⟨rfl, h, Fr.refl _ _⟩
    · have hn : (decide (i < 0)) = false := by simp; omega
      go_enter Tryz.func23, Tryz.ntmps23
      go_wp2
      go_ret
      exact ⟨rfl, h, Fr.refl _ _⟩
  · rw [if_neg hi, if_neg hi, if_neg hi]
    have hi : inCell i = true := by simpa using hi
    have hi' : 0 ≤ i ∧ i < 8 := by simpa [inCell] using hi
    obtain ⟨k, rfl⟩ : ∃ k : Nat, i = k := ⟨i.toNat, by omega⟩
    have hk : k < 8 := by omega
    rw [Int.toNat_natCast]
    clear hi hi'
    by_cases hz : 64 < x.size
    · rw [if_pos hz, if_pos hz, if_pos hz]
      unfold ptr
      go_enter Tryz.func23, Tryz.ntmps23
      go_wp2
      go_ret
      exact ⟨rfl, h, Fr.refl _ _⟩
    · rw [if_neg hz, if_neg hz, if_neg hz]
      unfold ptr
      have main : ∀ (d c : Bool) (S2 : Sto) (r : Int), ((R.writes : Int) + 1 == (R.due : Int)) = d → S.done = c → r = (if d then 8 else 0) → S2 = (if d = true ∧ c = false then { S with left := S.left - 1 } else { S with left := S.left - 1, cell := fun j => if j = k then x else S.cell j }) →
          Calls Tryz.prog 23 #[.pointer (some ⟨g, 0, none⟩), .int .i64 (k : Int), .string x] w fun e w' => e = .returned (.int .i64 r) ∧ StoR w' g gc S2 { R with writes := R.writes + 1 } ∧ Fr [g, gc] w w' := by
        intro d c S2 r hd hc hr hS2
        have hne := h.ne
        have H1 : Hid _ := h
        have hl := h.left
        have f1 := Row.frozen h.r 1
        have a1 := h.at1
        have hr1 := StoR.setWrites h.r (R.writes + 1)
        have hc1 := Row.other h.c (g' := g) (k := 1) (v := .int .i64 (R.writes + 1 : Nat)) (fun e => hne e.symm)
        rw [show ((R.writes + 1 : Nat) : Int) = (R.writes : Int) + 1 by omega] at hr1 hc1
        clear h
        have hwr : IntKind.i64.wrap ((R.writes : Int) + 1) = (R.writes : Int) + 1 := by
          have := wrap_i64_ediv ((R.writes : Int) + 1) 1 (by omega) (by omega) (by omega)
          rwa [Int.ediv_one] at this
        go_enter Tryz.func23, Tryz.ntmps23
        go_wp2_with fail
        suffices H : ∀ W, Row W g 6 96 (refV gc { R with writes := R.writes + 1 } S.done) → Row W gc 8 9 (fun j => .string (S.cell j)) → Fr [g, gc] w W → Code.wp Tryz.prog _ _ _ W from H _ hr1 hc1 (Fr.setCell (Fr.refl _ _) (.inr (by simp)) _)
        clear hr1 hc1 a1 f1
        intro W hr1 hc1 hf
        have b0 : W.cell? ⟨g, 0, none⟩ = some (.slice (some ⟨gc, 0, none⟩) 8 8) := by rw [Row.cell hr1 0 (by omega)]; rfl
        have b1 : W.cell? ⟨g, 1, none⟩ = some (.int .i64 ((R.writes : Int) + 1)) := by rw [Row.cell hr1 1 (by omega)]; rfl
        have b2 : W.cell? ⟨g, 2, none⟩ = some (.int .i64 R.due) := by rw [Row.cell hr1 2 (by omega)]; rfl
        have b3 : W.cell? ⟨g, 3, none⟩ = some (.bool S.done) := by rw [Row.cell hr1 3 (by omega)]; rfl
        have ck := Row.cell hc1 k hk
        have fk := Row.frozen hc1 k
        rw [hc] at b3 hr1
        go_region
        have hf2 := hf.drew
        have hr2 := hr1.drew
        have hc2 := hc1.drew
        have hcs := StoR.setCell hc2 k x
        have hrs := Row.other hr2 (g' := gc) (k := k) (v := .string x) hne
        have hfs := Fr.setCell hf2 (a := ⟨gc, k, none⟩) (.inr (by simp)) (.string x)
        clear H1 hf hr1 hc1
        cases d <;> cases c <;> simp only [Bool.false_eq_true, if_false, if_true, and_self, and_false, and_true, reduceCtorEq] at hr hS2 <;> subst hr <;> go_wp2 <;> go_ret <;> subst hS2
        · exact ⟨rfl, ⟨by dsimp only; first | exact hrs | (rw [hc]; exact hrs), hcs, by dsimp only; omega⟩, hfs⟩
        · exact ⟨rfl, ⟨by dsimp only; first | exact hrs | (rw [hc]; exact hrs), hcs, by dsimp only; omega⟩, hfs⟩
        · exact ⟨rfl, ⟨by dsimp only; first | exact hr2 | (rw [hc]; exact hr2), hc2, by dsimp only; omega⟩, hf2⟩
        · exact ⟨rfl, ⟨by dsimp only; first | exact hrs | (rw [hc]; exact hrs), hcs, by dsimp only; omega⟩, hfs⟩
      have hl := h.left
      have hd : ((R.writes : Int) + 1 == (R.due : Int)) = decide (S.left = 1) := by
        rw [Bool.eq_iff_iff, beq_iff_eq, decide_eq_true_iff]; omega
      refine main _ _ _ _ hd rfl ?_ ?_
      · simp
      · by_cases h1 : S.left = 1 ∧ S.done = false
        · rw [if_pos h1, if_pos (by simpa using h1)]
        · rw [if_neg h1, if_neg (by simpa using h1)]
def interR (k : Int) (R : RSt) : RSt := if k < 0 then R else { R with writes := 0, due := k.toNat }
set_option maxRecDepth 100000 in
set_option maxHeartbeats 1000000 in
theorem refInterrupt_any (g gc : Nat) (S : Sto) (R : RSt) (k : Int) (d : Bool) (w : World) (h : StoR w g gc S R) :
    Calls Tryz.prog 25 #[ptr g, .int .i64 k, .bool d] w fun e w' => e = .returned (.int .i64 (if k < 0 then 1 else 0)) ∧ StoR w' g gc (interM S k d) (interR k R) ∧ Chg g w w' := by
  unfold ptr interM interR
  by_cases hk : k < 0
  · rw [if_pos hk, if_pos hk, if_pos hk]
    go_enter Tryz.func25, Tryz.ntmps25
    go_wp2
    go_ret
    exact ⟨rfl, h, Chg.refl _ _⟩
  · rw [if_neg hk, if_neg hk, if_neg hk]
    obtain ⟨n, rfl⟩ : ∃ n : Nat, k = n := ⟨k.toNat, by omega⟩
    have a1 := h.at1
    have a2 := h.at2
    have a3 := h.at3
    have f1 := Row.frozen h.r 1
    have f2 := Row.frozen h.r 2
    have f3 := Row.frozen h.r 3
    go_enter Tryz.func25, Tryz.ntmps25
    go_wp2
    go_ret
    refine ⟨rfl, ⟨StoR.setDone (StoR.setDue (StoR.setWrites h.r 0) n) d, ?_, by simp⟩, Chg.setCell (Chg.setCell (Chg.setCell (Chg.refl _ _) _ _) _ _) _ _⟩
    exact ((h.c.other (fun e => h.ne e.symm)).other (fun e => h.ne e.symm)).other (fun e => h.ne e.symm)
end Go.Proofs.YtgalgjmhdbncbabGreat
namespace Go.Proofs.YtgalgjmhdbncbabGreat
open Go.RowKit
attribute [local go_sem ↓] Go.wp_at_zero Go.wp_at_succ
attribute [local go_sem ↓] ldw40 stw40 al40
attribute [local go_sem] run_ldT40 ldN_row run_stT40 stN_row stN_z run_al40
attribute [local go_sem] blk_new blk_at blk_old blk_drew blk_setCell blk_setRow alloc_setRow

def nextF (f : Nat → UInt8) : Nat → UInt8 := putF f 12 4 (valF f 12 4 + 1)
theorem Below.of_chg {B g : Nat} {w w' : World} (hc : Chg g w w') (hg : B ≤ g) : Below B w w' := Below.chg (Below.refl _ _) hc hg
set_option maxRecDepth 100000 in
set_option maxHeartbeats 400000 in
theorem next_any (f : Nat → UInt8) (w : World) :
    Calls Tryz.prog 137 #[.agg (arr 16 (by8 f))] w fun e w' => e = .returned (.agg (arr 16 (by8 (nextF f)))) ∧ Below w.heap.size w w' := by
  have hv := valF_lt f 12 4
  have h4 : (256 : Nat) ^ 4 = 4294967296 := rfl
  rw [h4] at hv
  clear h4
  go_enter Tryz.func137, Tryz.ntmps137
  go_wp2_with fail
  refine (nof_any w.heap.size 12 4 4 16 141 f (by omega) (by omega) (by omega) _ ((Row.new _ _ _ _ _ rfl).alloc _)).mono ?_
  rintro e W ⟨rfl, hw⟩
  have r0 : Row W w.heap.size 16 141 (by8 f) := by rw [hw]; exact (Row.new _ _ _ _ _ rfl).alloc _
  have r1 : Row W (w.heap.size + 1) 16 141 z8 := by rw [hw]; exact Row.new _ _ _ _ _ (by simp)
  have bW : Below w.heap.size w W := by rw [hw]; exact ((Below.refl _ _).alloc (Nat.le_refl _) _).alloc (by simp) _
  clear hw
  generalize hV : valF f 12 4 = V at *
  have HV : Hid _ := hV
  clear hV
  have hp := fun w' => put_any w.heap.size 12 4 4 16 141 f (V + 1) (by omega) (by omega) (by omega) w'
  rw [show ((V + 1 : Nat) : Int) = (V : Int) + 1 by omega] at hp
  have HP : Hid _ := hp
  clear hp
  go_wp2_with fail
  refine (HP.out _ r0).mono ?_
  rintro e w2 ⟨rfl, hc, r2⟩
  have r1' := r1.chg hc (by omega)
  have q2 := heap_pos r2
  have q1 := heap_pos r1'
  go_wp2
  refine bodyPost_ret (res40 Tryz.results137 _ _ (w.heap.size + 1) _ rfl r1'.setRow) rfl ⟨?_, ?_⟩
  · unfold nextF
    rw [HV.out]
  · exact Below.setRow (Below.chg bW hc (by omega)) (by omega) _

theorem num4 (x j : Nat) (hj : j < 4) : numF (x % 4294967296) 4 j = numF x 4 j := by
  unfold numF
  apply UInt8.toNat_inj.1
  rw [UInt8.toNat_ofNat', UInt8.toNat_ofNat']
  rcases (by omega : j = 0 ∨ j = 1 ∨ j = 2 ∨ j = 3) with rfl | rfl | rfl | rfl
  · show x % 4294967296 / 16777216 % 256 = x / 16777216 % 256; omega
  · show x % 4294967296 / 65536 % 256 = x / 65536 % 256; omega
  · show x % 4294967296 / 256 % 256 = x / 256 % 256; omega
  · show x % 4294967296 / 1 % 256 = x / 1 % 256; omega
theorem valF_congr {f g : Nat → UInt8} {a : Nat} : ∀ n, (∀ j, j < n → f (a + j) = g (a + j)) → valF f a n = valF g a n
  | 0, _ => rfl
  | n + 1, h => by simp only [valF]; rw [valF_congr n (fun j hj => h j (by omega)), h n (by omega)]
theorem val_num4 (x a : Nat) (f : Nat → UInt8) (hf : ∀ j, j < 4 → f (a + j) = numF x 4 j) : valF f a 4 = x % 4294967296 := by
  have e0 := hf 0 (by omega)
  have e1 := hf 1 (by omega)
  have e2 := hf 2 (by omega)
  have e3 := hf 3 (by omega)
  simp only [valF]
  rw [e0, e1, e2, e3]
  unfold numF
  simp only [UInt8.toNat_ofNat']
  show ((((0 * 256 + x / 16777216 % 256) * 256 + x / 65536 % 256) * 256 + x / 256 % 256) * 256 + x / 1 % 256) = _
  omega
end Go.Proofs.YtgalgjmhdbncbabGreat
namespace Go.Proofs.YtgalgjmhdbncbabGreat

theorem pk_xor (f g : Nat → UInt8) : ∀ n, pk (fun j => f j ^^^ g j) n = pk f n ^^^ pk g n
  | 0 => by simp [pk]
  | n + 1 => by
    simp only [pk]
    rw [pk_xor f g n]
    apply BitVec.eq_of_getLsbD_eq
    intro i hi
    simp
    by_cases h : i < 8
    · simp [h]
    · have h1 : (f n).toBitVec.getLsbD i = false := BitVec.getLsbD_of_ge _ _ (by omega)
      have h2 : (g n).toBitVec.getLsbD i = false := BitVec.getLsbD_of_ge _ _ (by omega)
      simp [h, h1, h2, hi]

theorem runW_q (b : BitVec 64) : ∀ (k : Nat) (s : St) (b' : BitVec 64) (s' : St), s.qH = s'.qH → s.qL = s'.qL → (runW b k s).qH = (runW b' k s').qH ∧ (runW b k s).qL = (runW b' k s').qL
  | 0, _, _, _, h1, h2 => ⟨h1, h2⟩
  | k + 1, s, b', s', h1, h2 => by
    obtain ⟨e1, e2⟩ := runW_q b k s b' s' h1 h2
    simp only [runW, stp]
    rw [e1, e2]
    exact ⟨rfl, rfl⟩
theorem xor_step (x y : Bool) (s t q : BitVec 64) : (if (x ^^ y) = true then (s ^^^ t) ^^^ q else s ^^^ t) = (if x = true then s ^^^ q else s) ^^^ (if y = true then t ^^^ q else t) := by
  apply BitVec.eq_of_getLsbD_eq
  intro i hi
  cases x <;> cases y <;> simp <;> cases s.getLsbD i <;> cases t.getLsbD i <;> cases q.getLsbD i <;> rfl
theorem runW_xor (b b' : BitVec 64) (qH qL : BitVec 64) : ∀ (k : Nat) (s t s' t' : BitVec 64),
    (runW (b ^^^ b') k ⟨s ^^^ s', t ^^^ t', qH, qL⟩).sH = (runW b k ⟨s, t, qH, qL⟩).sH ^^^ (runW b' k ⟨s', t', qH, qL⟩).sH ∧
    (runW (b ^^^ b') k ⟨s ^^^ s', t ^^^ t', qH, qL⟩).sL = (runW b k ⟨s, t, qH, qL⟩).sL ^^^ (runW b' k ⟨s', t', qH, qL⟩).sL
  | 0, _, _, _, _ => ⟨rfl, rfl⟩
  | k + 1, s, t, s', t' => by
    obtain ⟨e1, e2⟩ := runW_xor b b' qH qL k s t s' t'
    obtain ⟨q1, q2⟩ := runW_q (b ^^^ b') k ⟨s ^^^ s', t ^^^ t', qH, qL⟩ b ⟨s, t, qH, qL⟩ rfl rfl
    obtain ⟨q3, q4⟩ := runW_q b' k ⟨s', t', qH, qL⟩ b ⟨s, t, qH, qL⟩ rfl rfl
    simp only [runW, stp, e1, e2, q1, q2, q3, q4, BitVec.getLsbD_xor]
    exact ⟨xor_step _ _ _ _ _, xor_step _ _ _ _ _⟩
theorem St.eta (s : St) : s = ⟨s.sH, s.sL, s.qH, s.qL⟩ := rfl
theorem runT_xor (a b a' b' qH qL : BitVec 64) :
    (runT (a ^^^ a') (b ^^^ b') ⟨0, 0, qH, qL⟩ 2).sH = (runT a b ⟨0, 0, qH, qL⟩ 2).sH ^^^ (runT a' b' ⟨0, 0, qH, qL⟩ 2).sH ∧
    (runT (a ^^^ a') (b ^^^ b') ⟨0, 0, qH, qL⟩ 2).sL = (runT a b ⟨0, 0, qH, qL⟩ 2).sL ^^^ (runT a' b' ⟨0, 0, qH, qL⟩ 2).sL := by
  have h := runW_xor a a' qH qL 64 0 0 0 0
  rw [show (0 : BitVec 64) ^^^ 0 = 0 from rfl] at h
  obtain ⟨q1, q2⟩ := runW_q (a ^^^ a') 64 ⟨0, 0, qH, qL⟩ a ⟨0, 0, qH, qL⟩ rfl rfl
  obtain ⟨q3, q4⟩ := runW_q a' 64 ⟨0, 0, qH, qL⟩ a ⟨0, 0, qH, qL⟩ rfl rfl
  have h2 := runW_xor b b' (runW a 64 ⟨0, 0, qH, qL⟩).qH (runW a 64 ⟨0, 0, qH, qL⟩).qL 64 (runW a 64 ⟨0, 0, qH, qL⟩).sH (runW a 64 ⟨0, 0, qH, qL⟩).sL (runW a' 64 ⟨0, 0, qH, qL⟩).sH (runW a' 64 ⟨0, 0, qH, qL⟩).sL
  simp only [runT]
  rw [if_neg (by decide), if_neg (by decide), if_neg (by decide), if_neg (by decide), if_neg (by decide), if_neg (by decide)]
  rw [St.eta (runW (a ^^^ a') 64 ⟨0, 0, qH, qL⟩), St.eta (runW a' 64 ⟨0, 0, qH, qL⟩), h.1, h.2, q1, q2, q3, q4]
  exact h2

theorem upk_xor (a b a' b' : BitVec 64) (j : Nat) : upk (a ^^^ a') (b ^^^ b') j = upk a b j ^^^ upk a' b' j := by
  unfold upk
  split
  · apply UInt8.eq_of_toBitVec_eq
    apply BitVec.eq_of_getLsbD_eq
    intro i hi
    simp [hi]
  · apply UInt8.eq_of_toBitVec_eq
    apply BitVec.eq_of_getLsbD_eq
    intro i hi
    simp [hi]

theorem prod_xor (f g h : Nat → UInt8) : prod (fun j => f j ^^^ g j) h = fun j => prod f h j ^^^ prod g h j := by
  funext j
  unfold prod prodSt
  rw [pk_xor, pk_xor (fun j => f (8 + j)) (fun j => g (8 + j))]
  obtain ⟨h1, h2⟩ := runT_xor (pk f 8) (pk (fun j => f (8 + j)) 8) (pk g 8) (pk (fun j => g (8 + j)) 8) (pk h 8) (pk (fun j => h (8 + j)) 8)
  rw [h1, h2, upk_xor]
theorem hashN_xor (h f g : Nat → UInt8) : ∀ k, hashN h (fun j => f j ^^^ g j) k = fun j => hashN h f k j ^^^ hashN h g k j
  | 0 => by funext j; simp [hashN]
  | k + 1 => by
    have e : (fun j => hashN h (fun j => f j ^^^ g j) k j ^^^ (f (16 * k + j) ^^^ g (16 * k + j))) = fun j => (hashN h f k j ^^^ f (16 * k + j)) ^^^ (hashN h g k j ^^^ g (16 * k + j)) := by
      rw [hashN_xor h f g k]
      funext j
      ac_rfl
    show prod (fun j => hashN h (fun j => f j ^^^ g j) k j ^^^ (f (16 * k + j) ^^^ g (16 * k + j))) h = _
    rw [e, prod_xor]
    rfl
theorem prod_zero (h : Nat → UInt8) : prod (fun _ => 0) h = fun _ => 0 := by
  have := prod_xor (fun _ => 0) (fun _ => 0) h
  funext j
  have e := congrFun this j
  simp only [UInt8.xor_self] at e
  exact e
theorem hashN_zero (h : Nat → UInt8) : ∀ k, hashN h (fun _ => 0) k = fun _ => 0
  | 0 => rfl
  | k + 1 => by
    show prod (fun j => hashN h (fun _ => 0) k j ^^^ 0) h = _
    rw [hashN_zero h k]
    simpa using prod_zero h

theorem pk_bit (f : Nat → UInt8) : ∀ n, n ≤ 8 → ∀ j, j < n → ∀ i, i < 8 → (pk f n).getLsbD (8 * (n - 1 - j) + i) = (f j).toBitVec.getLsbD i
  | 0, _, j, hj, _, _ => absurd hj (by omega)
  | n + 1, hn, j, hj, i, hi => by
    simp only [pk, BitVec.getLsbD_or, BitVec.getLsbD_shiftLeft, BitVec.getLsbD_setWidth]
    by_cases h : j = n
    · subst h
      rw [show 8 * (j + 1 - 1 - j) + i = i by omega]
      simp [hi, show i < 64 by omega]
    · have e := pk_bit f n (by omega) j (by omega) i hi
      rw [show 8 * (n + 1 - 1 - j) + i - 8 = 8 * (n - 1 - j) + i by omega, e]
      have h1 : (f j).toBitVec.getLsbD i = (f j).toBitVec.getLsbD i := rfl
      have h2 : (f n).toBitVec.getLsbD (8 * (n + 1 - 1 - j) + i) = false := BitVec.getLsbD_of_ge _ _ (by omega)
      rw [h2]
      have h3 : 8 * (n + 1 - 1 - j) + i < 64 := by omega
      have h4 : ¬ 8 * (n + 1 - 1 - j) + i < 8 := by omega
      rw [decide_eq_true h3, decide_eq_false h4]
      simp
theorem upk_pk (f : Nat → UInt8) (j : Nat) (hj : j < 16) : upk (pk f 8) (pk (fun j => f (8 + j)) 8) j = f j := by
  unfold upk
  split
  · rename_i h
    apply UInt8.eq_of_toBitVec_eq
    apply BitVec.eq_of_getLsbD_eq
    intro i hi
    have e := pk_bit f 8 (Nat.le_refl _) j h i hi
    simp [hi]
    exact e
  · rename_i h
    apply UInt8.eq_of_toBitVec_eq
    apply BitVec.eq_of_getLsbD_eq
    intro i hi
    have e := pk_bit (fun j => f (8 + j)) 8 (Nat.le_refl _) (j - 8) (by omega) i hi
    simp [hi]
    rw [show 8 + (j - 8) = j by omega, show 8 - 1 - (j - 8) = 15 - j by omega] at e
    exact e

theorem tx_one : ∀ k : Fin 63, txH (BitVec.twoPow 64 (63 - k.val)) 0 = BitVec.twoPow 64 (63 - (k.val + 1)) ∧ txL (BitVec.twoPow 64 (63 - k.val)) 0 = 0 ∧
    txH 0 (BitVec.twoPow 64 (63 - k.val)) = 0 ∧ txL 0 (BitVec.twoPow 64 (63 - k.val)) = BitVec.twoPow 64 (63 - (k.val + 1)) := by decide +kernel
theorem runW_hi (a : BitVec 64) : ∀ k, k ≤ 63 → (runW a k ⟨0, 0, BitVec.twoPow 64 63, 0⟩).qH = BitVec.twoPow 64 (63 - k) ∧ (runW a k ⟨0, 0, BitVec.twoPow 64 63, 0⟩).qL = 0
  | 0, _ => ⟨rfl, rfl⟩
  | k + 1, hk => by
    obtain ⟨e1, e2⟩ := runW_hi a k (by omega)
    have t := tx_one ⟨k, by omega⟩
    simp only [runW, stp, e1, e2]
    exact ⟨t.1, t.2.1⟩
theorem runW_hi64 (a : BitVec 64) : (runW a 64 ⟨0, 0, BitVec.twoPow 64 63, 0⟩).qH = 0 ∧ (runW a 64 ⟨0, 0, BitVec.twoPow 64 63, 0⟩).qL = BitVec.twoPow 64 63 := by
  obtain ⟨e1, e2⟩ := runW_hi a 63 (Nat.le_refl _)
  have e : runW a 64 ⟨0, 0, BitVec.twoPow 64 63, 0⟩ = stp (a.getLsbD (63 - 63)) (runW a 63 ⟨0, 0, BitVec.twoPow 64 63, 0⟩) := rfl
  generalize runW a 63 ⟨0, 0, BitVec.twoPow 64 63, 0⟩ = z at *
  rw [e]
  simp only [stp]
  rw [e1, e2]
  exact ⟨by decide +kernel, by decide +kernel⟩
theorem runW_lo (b sH sL : BitVec 64) : ∀ k, k ≤ 63 → (runW b k ⟨sH, sL, 0, BitVec.twoPow 64 63⟩).qL = BitVec.twoPow 64 (63 - k) ∧ (runW b k ⟨sH, sL, 0, BitVec.twoPow 64 63⟩).qH = 0
  | 0, _ => ⟨rfl, rfl⟩
  | k + 1, hk => by
    obtain ⟨e1, e2⟩ := runW_lo b sH sL k (by omega)
    have t := tx_one ⟨k, by omega⟩
    simp only [runW, stp, e1, e2]
    exact ⟨t.2.2.2, t.2.2.1⟩
theorem put_bit (a s : BitVec 64) (k : Nat) (hk : k < 64) (h : ∀ i, i < 64 → s.getLsbD i = (decide (64 - k ≤ i) && a.getLsbD i)) :
    ∀ i, i < 64 → (if a.getLsbD (63 - k) = true then s ^^^ BitVec.twoPow 64 (63 - k) else s).getLsbD i = (decide (64 - (k + 1) ≤ i) && a.getLsbD i) := by
  intro i hi
  by_cases he : i = 63 - k
  · subst he
    have h1 := h (63 - k) (by omega)
    rw [decide_eq_false (by omega : ¬ 64 - k ≤ 63 - k)] at h1
    rw [decide_eq_true (by omega : 64 - (k + 1) ≤ 63 - k)]
    cases hb : a.getLsbD (63 - k)
    · simpa [hb] using h1
    · simp [h1, BitVec.getLsbD_twoPow]; omega
  · have h2 : (BitVec.twoPow 64 (63 - k)).getLsbD i = false := by
      rw [BitVec.getLsbD_twoPow]; simp; omega
    have h3 : decide (64 - (k + 1) ≤ i) = decide (64 - k ≤ i) := by
      rw [decide_eq_decide]; omega
    rw [h3, ← h i hi]
    cases a.getLsbD (63 - k) <;> simp [h2]
theorem runW_hiS (a : BitVec 64) : ∀ k, k ≤ 64 → (∀ i, i < 64 → (runW a k ⟨0, 0, BitVec.twoPow 64 63, 0⟩).sH.getLsbD i = (decide (64 - k ≤ i) && a.getLsbD i)) ∧ (runW a k ⟨0, 0, BitVec.twoPow 64 63, 0⟩).sL = 0
  | 0, _ => ⟨fun i hi => by rw [decide_eq_false (by omega)]; simp [runW], rfl⟩
  | k + 1, hk => by
    obtain ⟨e1, e2⟩ := runW_hi a k (by omega)
    obtain ⟨h1, h2⟩ := runW_hiS a k (by omega)
    simp only [runW, stp, e1, e2, h2]
    exact ⟨put_bit a _ k (by omega) h1, by split <;> rfl⟩
theorem runW_loS (b sH : BitVec 64) : ∀ k, k ≤ 64 → (∀ i, i < 64 → (runW b k ⟨sH, 0, 0, BitVec.twoPow 64 63⟩).sL.getLsbD i = (decide (64 - k ≤ i) && b.getLsbD i)) ∧ (runW b k ⟨sH, 0, 0, BitVec.twoPow 64 63⟩).sH = sH
  | 0, _ => ⟨fun i hi => by rw [decide_eq_false (by omega)]; simp [runW], rfl⟩
  | k + 1, hk => by
    obtain ⟨e1, e2⟩ := runW_lo b sH 0 k (by omega)
    obtain ⟨h1, h2⟩ := runW_loS b sH k (by omega)
    simp only [runW, stp, e1, e2, h2]
    exact ⟨put_bit b _ k (by omega) h1, by split <;> simp⟩
theorem runT_one (a b : BitVec 64) : (runT a b ⟨0, 0, BitVec.twoPow 64 63, 0⟩ 2).sH = a ∧ (runT a b ⟨0, 0, BitVec.twoPow 64 63, 0⟩ 2).sL = b := by
  obtain ⟨h1, h2⟩ := runW_hiS a 64 (Nat.le_refl _)
  obtain ⟨q1, q2⟩ := runW_hi64 a
  have ea : (runW a 64 ⟨0, 0, BitVec.twoPow 64 63, 0⟩).sH = a := by
    apply BitVec.eq_of_getLsbD_eq
    intro i hi
    rw [h1 i hi]; simp
  obtain ⟨h3, h4⟩ := runW_loS b a 64 (Nat.le_refl _)
  simp only [runT]
  rw [if_neg (by decide), if_neg (by decide)]
  rw [St.eta (runW a 64 ⟨0, 0, BitVec.twoPow 64 63, 0⟩), ea, h2, q1, q2]
  refine ⟨h4, ?_⟩
  apply BitVec.eq_of_getLsbD_eq
  intro i hi
  rw [h3 i hi]; simp
def one8s : Nat → UInt8 := fun j => if j = 0 then 128 else 0
def x8s : Nat → UInt8 := fun j => if j = 0 then 64 else 0
theorem prod_one (c : Nat → UInt8) (j : Nat) (hj : j < 16) : prod c one8s j = c j := by
  unfold prod prodSt
  rw [show pk one8s 8 = BitVec.twoPow 64 63 from by decide +kernel, show pk (fun j => one8s (8 + j)) 8 = 0 from by decide +kernel]
  obtain ⟨h1, h2⟩ := runT_one (pk c 8) (pk (fun j => c (8 + j)) 8)
  rw [h1, h2, upk_pk c j hj]
theorem hash_one (c : Nat → UInt8) (j : Nat) (hj : j < 16) : hashN one8s c 1 j = c j := by
  show prod (fun j => 0 ^^^ c (16 * 0 + j)) one8s j = c j
  rw [prod_one _ j hj]
  simp
theorem hash_x : ∀ j : Fin 16, hashN x8s one8s 1 j = x8s j := by decide +kernel
end Go.Proofs.YtgalgjmhdbncbabGreat
