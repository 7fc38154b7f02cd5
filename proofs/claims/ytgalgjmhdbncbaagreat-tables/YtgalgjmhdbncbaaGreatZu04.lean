import Derived.Test.YtgalgjmhdbncbaaGreatZu03
namespace Go.Proofs.YtgalgjmhdbncbaaGreat
open Go.RowKit
attribute [local go_sem ↓] Go.wp_at_zero Go.wp_at_succ

structure Fr (L : List Nat) (w w' : World) : Prop where
  os : w'.os = w.os
  tape : w'.tape = w.tape
  output : w'.output = w.output
  size : w.heap.size ≤ w'.heap.size
  block : ∀ k, k < w.heap.size → k ∉ L → w'.heap[k]? = w.heap[k]?
theorem Fr.refl (L : List Nat) (w : World) : Fr L w w := ⟨rfl, rfl, rfl, Nat.le_refl _, fun _ _ _ => rfl⟩
theorem Fr.trans {L : List Nat} {a b c : World} (h : Fr L a b) (k : Fr L b c) : Fr L a c :=
  ⟨k.os.trans h.os, k.tape.trans h.tape, k.output.trans h.output, Nat.le_trans h.size k.size, fun i hi hn => (k.block i (Nat.lt_of_lt_of_le hi h.size) hn).trans (h.block i hi hn)⟩
theorem Fr.mono {L L' : List Nat} {w w' : World} (h : Fr L w w') (hL : ∀ k, k < w.heap.size → k ∈ L → k ∈ L') : Fr L' w w' :=
  ⟨h.os, h.tape, h.output, h.size, fun k hk hn => h.block k hk (fun hm => hn (hL k hk hm))⟩
theorem Fr.sub {L L' : List Nat} {w w' : World} (h : Fr L w w') (hL : ∀ k, k ∈ L → k ∈ L') : Fr L' w w' := h.mono fun k _ => hL k
theorem Fr.of_below {w w' : World} {B : Nat} (L : List Nat) (h : Below B w w') (hB : w.heap.size ≤ B) : Fr L w w' := ⟨h.os, h.tape, h.output, h.size, fun k hk _ => h.block k (by omega)⟩
theorem Fr.of_chg {g : Nat} {w w' : World} {L : List Nat} (h : Chg g w w') (hg : g ∈ L) : Fr L w w' :=
  ⟨h.os, h.tape, h.output, Nat.le_of_eq h.size.symm, fun k _ hn => h.block k (fun e => hn (e ▸ hg))⟩
theorem Fr.drew {L : List Nat} {w w' : World} (h : Fr L w w') : Fr L w w'.drew := ⟨h.os, h.tape, h.output, h.size, h.block⟩
theorem Fr.alloc {L : List Nat} {w w' : World} (h : Fr L w w') (o : Obj) : Fr L w (w'.alloc o) :=
  h.trans ⟨rfl, rfl, rfl, by simp, fun k hk _ => Below.heap_alloc _ _ _ hk⟩
theorem Fr.setCell {L : List Nat} {w w' : World} (h : Fr L w w') {a : Addr} (ha : w.heap.size ≤ a.block ∨ a.block ∈ L) (v : Value) : Fr L w (w'.setCell a v) :=
  ⟨h.os, h.tape, h.output, by simpa [World.setCell] using h.size, fun k hk hn => by
    rw [Below.heap_setCell _ _ _ _ (by rintro rfl; rcases ha with ha | ha; omega; exact hn ha)]; exact h.block k hk hn⟩
theorem Row.fr {w w' : World} {L : List Nat} {g n : Nat} {t : TypeId} {V : Nat → Value} (h : Row w g n t V) (hf : Fr L w w') (hg : g ∉ L) : Row w' g n t V := by
  unfold Row; rw [hf.block g h.lt hg]; exact h
theorem Fr.below {w w' : World} {L : List Nat} {B : Nat} (h : Fr L w w') (hB : B ≤ w.heap.size) (hL : ∀ k, k ∈ L → B ≤ k) : Below B w w' :=
  ⟨h.os, h.tape, h.output, h.size, fun k hk => h.block k (by omega) (fun hm => by have := hL k hm; omega)⟩
theorem Row.ne {w : World} {g g' n n' : Nat} {t t' : TypeId} {V V' : Nat → Value} (h : Row w g n t V) (h' : Row w g' n' t' V') (ht : t ≠ t') : g ≠ g' := by
  rintro rfl
  unfold Row at h h'
  rw [h] at h'
  simp only [Option.some.injEq, Obj.cells.injEq] at h'
  exact ht h'.2.1

structure Sto where
  cell : Nat → ByteArray
  left : Nat
  done : Bool
  tab : Option Nat
def ptr (g : Nat) : Value := .pointer (some ⟨g, 0, none⟩)
def ptrO : Option Nat → Value
  | none => .pointer none
  | some g => .pointer (some ⟨g, 0, none⟩)
def stoV (S : Sto) (j : Nat) : Value := if j < 8 then .string (S.cell j) else if j = 8 then .int .i64 S.left else if j = 9 then .bool S.done else ptrO S.tab
def StoP (w : World) (g : Nat) (S : Sto) : Prop := Row w g 11 84 (stoV S)
theorem StoP.cellAt {w : World} {g : Nat} {S : Sto} (h : StoP w g S) (k : Nat) (hk : k < 8) : w.cell? ⟨g, k, none⟩ = some (.string (S.cell k)) := by
  rw [Row.cell h k (by omega)]; simp [stoV, hk]
theorem StoP.leftAt {w : World} {g : Nat} {S : Sto} (h : StoP w g S) : w.cell? ⟨g, 8, none⟩ = some (.int .i64 S.left) := by rw [Row.cell h 8 (by omega)]; rfl
theorem StoP.doneAt {w : World} {g : Nat} {S : Sto} (h : StoP w g S) : w.cell? ⟨g, 9, none⟩ = some (.bool S.done) := by rw [Row.cell h 9 (by omega)]; rfl
theorem StoP.tabAt {w : World} {g : Nat} {S : Sto} (h : StoP w g S) : w.cell? ⟨g, 10, none⟩ = some (ptrO S.tab) := by rw [Row.cell h 10 (by omega)]; rfl
theorem StoP.setCell {w : World} {g : Nat} {S : Sto} (h : StoP w g S) (k : Nat) (hk : k < 8) (x : ByteArray) : StoP (w.setCell ⟨g, k, none⟩ (.string x)) g { S with cell := fun j => if j = k then x else S.cell j } := by
  refine Row.congr (Row.set h k _) (fun j hj => ?_)
  by_cases e : j = k
  · subst e; simp [stoV, hk]
  · simp [stoV, e]
theorem StoP.setLeft {w : World} {g : Nat} {S : Sto} (h : StoP w g S) (n : Nat) : StoP (w.setCell ⟨g, 8, none⟩ (.int .i64 n)) g { S with left := n } := by
  refine Row.congr (Row.set h 8 _) (fun j hj => ?_)
  by_cases e : j = 8
  · subst e; simp [stoV]
  · simp [stoV, e]
theorem StoP.setDone {w : World} {g : Nat} {S : Sto} (h : StoP w g S) (b : Bool) : StoP (w.setCell ⟨g, 9, none⟩ (.bool b)) g { S with done := b } := by
  refine Row.congr (Row.set h 9 _) (fun j hj => ?_)
  by_cases e : j = 9
  · subst e; simp [stoV]
  · simp [stoV, e]
theorem StoP.setTab {w : World} {g : Nat} {S : Sto} (h : StoP w g S) (t : Option Nat) : StoP (w.setCell ⟨g, 10, none⟩ (ptrO t)) g { S with tab := t } := by
  refine Row.congr (Row.set h 10 _) (fun j hj => ?_)
  by_cases e : j = 10
  · subst e; simp [stoV]
  · simp only [stoV, e, if_false]
    repeat (split; rfl)
    omega
def newSto : Sto := ⟨fun _ => ⟨#[]⟩, 0, false, none⟩
set_option maxRecDepth 100000 in
set_option maxHeartbeats 1000000 in
theorem newStore_any (w : World) : Calls Tryz.prog 15 #[] w fun e w' => e = .returned (ptr w.heap.size) ∧ StoP w' w.heap.size newSto ∧ Below w.heap.size w w' := by
  go_enter Tryz.func15, Tryz.ntmps15
  go_wp2
  go_ret
  refine ⟨rfl, ?_, (Below.refl _ _).alloc (Nat.le_refl _) _⟩
  exact Row.lit _ _ _ _ _ _ rfl (by kernel_rfl)

def inCell (i : Int) : Bool := decide (0 ≤ i ∧ i < 8)
set_option maxHeartbeats 1000000 in
theorem isCell_any (i : Int) (w : World) : Calls Tryz.prog 50 #[.int .i64 i] w fun e w' => e = .returned (.bool (inCell i)) ∧ w' = w := by
  go_enter Tryz.func50, Tryz.ntmps50
  by_cases h1 : 0 ≤ i
  · go_wp2
    go_ret
    refine ⟨?_, rfl⟩
    simp [inCell, h1]
  · have : (decide (0 ≤ i)) = false := by simp [h1]
    go_wp2
    go_ret
    refine ⟨?_, rfl⟩
    simp [inCell]; omega

def cellM (S : Sto) (i : Int) : ByteArray × Int := if inCell i = true then (S.cell i.toNat, 0) else (⟨#[]⟩, 1)
set_option maxRecDepth 100000 in
set_option maxHeartbeats 1000000 in
theorem cell_any (g : Nat) (S : Sto) (i : Int) (w : World) (h : StoP w g S) :
    Calls Tryz.prog 23 #[ptr g, .int .i64 i] w fun e w' => e = .returned (.tuple #[.string (cellM S i).1, .int .i64 (cellM S i).2]) ∧ w' = w := by
  unfold ptr cellM
  by_cases hi : inCell i = true
  · rw [if_pos hi]
    have hi' : 0 ≤ i ∧ i < 8 := by simpa [inCell] using hi
    obtain ⟨k, rfl⟩ : ∃ k : Nat, i = k := ⟨i.toNat, by omega⟩
    have hk : k < 8 := by omega
    have c := StoP.cellAt h k hk
    rw [Int.toNat_natCast]
    go_enter Tryz.func23, Tryz.ntmps23
    go_wp2_with fail
    refine (isCell_any _ _).mono ?_
    rintro e w1 ⟨rfl, hw⟩
    subst hw
    go_wp2
    go_ret2
    exact ⟨rfl, rfl⟩
  · rw [if_neg hi]
    have hi : inCell i = false := by simpa using hi
    go_enter Tryz.func23, Tryz.ntmps23
    go_wp2_with fail
    refine (isCell_any _ _).mono ?_
    rintro e w1 ⟨rfl, hw⟩
    subst hw
    go_wp2
    go_ret2
    exact ⟨rfl, rfl⟩

set_option maxRecDepth 100000 in
set_option maxHeartbeats 1000000 in
theorem interrupted_any (g : Nat) (S : Sto) (hl : S.left ≤ 9223372036854775807) (w : World) (h : StoP w g S) :
    Calls Tryz.prog 51 #[ptr g] w fun e w' => e = .returned (.bool (decide (S.left = 1))) ∧ StoP w' g { S with left := S.left - 1 } ∧ Chg g w w' := by
  unfold ptr
  have c := StoP.leftAt h
  have f := Row.frozen h 8
  by_cases h0 : S.left = 0
  · have e0 : ((S.left : Int) == 0) = true := by rw [beq_iff_eq]; omega
    go_enter Tryz.func51, Tryz.ntmps51
    go_wp2
    go_ret
    refine ⟨by simp [h0], ?_, Chg.refl _ _⟩
    have : ({ S with left := S.left - 1 } : Sto) = S := by cases S; simp only [Sto.mk.injEq, and_true, true_and] at *; omega
    rw [this]; exact h
  · have e0 : ((S.left : Int) == 0) = false := by rw [beq_eq_false_iff_ne]; omega
    obtain ⟨L, hL⟩ : ∃ L, S.left = L + 1 := ⟨S.left - 1, by omega⟩
    rw [hL] at c e0 hl
    have e1 : IntKind.i64.wrap (((L + 1 : Nat) : Int) - 1) = (L : Int) := by
      rw [show ((L + 1 : Nat) : Int) - 1 = (L : Int) by omega]
      have := wrap_i64_ediv (L : Int) 1 (by omega) (by omega) (by omega)
      rwa [Int.ediv_one] at this
    rw [hL]
    have hS := StoP.setLeft h L
    have c2 := StoP.leftAt hS
    go_enter Tryz.func51, Tryz.ntmps51
    go_wp2
    go_ret
    refine ⟨congrArg (fun b => Ending.returned (Value.bool b)) (show ((L : Int) == 0) = decide (L = 0) from ?_), hS, Chg.setCell (Chg.refl _ _) _ _⟩
    rw [Bool.eq_iff_iff, beq_iff_eq, decide_eq_true_iff]
    omega
def writeM (S : Sto) (i : Int) (x : ByteArray) : Int := if inCell i = false then 1 else if 64 < x.size then 4 else if S.left = 1 then 8 else 0
def wroteM (S : Sto) (i : Int) (x : ByteArray) : Sto :=
  if inCell i = false then S else if 64 < x.size then S
  else { S with left := S.left - 1, cell := if S.left = 1 ∧ S.done = false then S.cell else fun j => if j = i.toNat then x else S.cell j }
set_option maxRecDepth 100000 in
set_option maxHeartbeats 1000000 in
theorem write_any (g : Nat) (S : Sto) (i : Int) (x : ByteArray) (hl : S.left ≤ 9223372036854775807) (w : World) (h : StoP w g S) :
    Calls Tryz.prog 24 #[ptr g, .int .i64 i, .string x] w fun e w' => e = .returned (.int .i64 (writeM S i x)) ∧ StoP w' g (wroteM S i x) ∧ Chg g w w' := by
  unfold writeM wroteM
  by_cases hi : inCell i = false
  · rw [if_pos hi, if_pos hi]
    unfold ptr
    go_enter Tryz.func24, Tryz.ntmps24
    go_wp2_with fail
    refine (isCell_any _ _).mono ?_
    rintro e w1 ⟨rfl, hw⟩
    subst hw
    go_wp2
    go_ret
    exact ⟨rfl, h, Chg.refl _ _⟩
  · rw [if_neg hi, if_neg hi]
    have hi : inCell i = true := by simpa using hi
    have hi' : 0 ≤ i ∧ i < 8 := by simpa [inCell] using hi
    obtain ⟨k, rfl⟩ : ∃ k : Nat, i = k := ⟨i.toNat, by omega⟩
    have hk : k < 8 := by omega
    rw [Int.toNat_natCast]
    by_cases hz : 64 < x.size
    · rw [if_pos hz, if_pos hz]
      unfold ptr
      go_enter Tryz.func24, Tryz.ntmps24
      go_wp2_with fail
      refine (isCell_any _ _).mono ?_
      rintro e w1 ⟨rfl, hw⟩
      subst hw
      go_wp2
      go_ret
      exact ⟨rfl, h, Chg.refl _ _⟩
    · rw [if_neg hz, if_neg hz]
      unfold ptr
      have hi2 := interrupted_any g S hl
      unfold ptr at hi2
      have HI : Hid _ := hi2
      clear hi2
      have main : ∀ (d c : Bool) (S2 : Sto) (r : Int), decide (S.left = 1) = d → S.done = c → r = (if d then 8 else 0) → S2 = (if d = true ∧ c = false then { S with left := S.left - 1 } else { S with left := S.left - 1, cell := fun j => if j = k then x else S.cell j }) →
          Calls Tryz.prog 24 #[.pointer (some ⟨g, 0, none⟩), .int .i64 (k : Int), .string x] w fun e w' => e = .returned (.int .i64 r) ∧ StoP w' g S2 ∧ Chg g w w' := by
        intro d c S2 r hd hc hr hS2
        rw [hd] at HI
        clear hl
        go_enter Tryz.func24, Tryz.ntmps24
        go_wp2_with fail
        refine (isCell_any _ _).mono ?_
        rintro e w1 ⟨rfl, hw⟩
        subst hw
        go_wp2_with fail
        refine (HI.out _ h).mono ?_
        rintro e w2 ⟨rfl, h2, c2⟩
        have d2 := StoP.doneAt h2
        have f2 := Row.frozen h2 k
        have k2 := StoP.cellAt h2 k hk
        have hS := StoP.setCell h2 k hk x
        dsimp only at d2 k2 hS
        rw [hc] at d2
        clear hd hc
        cases d <;> cases c <;> simp only [Bool.false_eq_true, if_false, if_true, and_self, and_false, and_true, reduceCtorEq] at hr hS2 <;> subst hr <;> go_wp2 <;> go_ret <;> subst hS2
        · exact ⟨rfl, hS, Chg.setCell c2 _ _⟩
        · exact ⟨rfl, hS, Chg.setCell c2 _ _⟩
        · exact ⟨rfl, h2, c2⟩
        · exact ⟨rfl, hS, Chg.setCell c2 _ _⟩
      refine main _ _ _ _ rfl rfl ?_ ?_
      · simp
      · by_cases h1 : S.left = 1 ∧ S.done = false
        · rw [if_pos h1, if_pos (by simpa using h1)]
        · rw [if_neg h1, if_neg (by simpa using h1)]
def interM (S : Sto) (k : Int) (d : Bool) : Sto := if k < 0 then S else { S with left := k.toNat, done := d }
set_option maxRecDepth 100000 in
set_option maxHeartbeats 1000000 in
theorem interrupt_any (g : Nat) (S : Sto) (k : Int) (d : Bool) (w : World) (h : StoP w g S) :
    Calls Tryz.prog 18 #[ptr g, .int .i64 k, .bool d] w fun e w' => e = .returned (.int .i64 (if k < 0 then 1 else 0)) ∧ StoP w' g (interM S k d) ∧ Chg g w w' := by
  unfold ptr interM
  by_cases hk : k < 0
  · rw [if_pos hk, if_pos hk]
    go_enter Tryz.func18, Tryz.ntmps18
    go_wp2
    go_ret
    exact ⟨rfl, h, Chg.refl _ _⟩
  · rw [if_neg hk, if_neg hk]
    obtain ⟨n, rfl⟩ : ∃ n : Nat, k = n := ⟨k.toNat, by omega⟩
    have c8 := StoP.leftAt h
    have c9 := StoP.doneAt h
    have f8 := Row.frozen h 8
    have f9 := Row.frozen h 9
    go_enter Tryz.func18, Tryz.ntmps18
    go_wp2
    go_ret
    exact ⟨rfl, StoP.setDone (StoP.setLeft h n) d, Chg.setCell (Chg.setCell (Chg.refl _ _) _ _) _ _⟩

structure RSt where
  writes : Nat
  due : Nat
  user : Nat
  tables : Nat
def refV (gc : Nat) (R : RSt) (d : Bool) (j : Nat) : Value :=
  if j = 0 then .slice (some ⟨gc, 0, none⟩) 8 8 else if j = 1 then .int .i64 R.writes else if j = 2 then .int .i64 R.due else if j = 3 then .bool d else if j = 4 then .int .i64 R.user else .int .i64 R.tables
structure StoR (w : World) (g gc : Nat) (S : Sto) (R : RSt) : Prop where
  r : Row w g 6 168 (refV gc R S.done)
  c : Row w gc 8 9 (fun j => .string (S.cell j))
  left : S.left = R.due - R.writes
theorem StoR.ne {w : World} {g gc : Nat} {S : Sto} {R : RSt} (h : StoR w g gc S R) : g ≠ gc := Row.ne h.r h.c (by decide)
theorem StoR.fr {w w' : World} {L : List Nat} {g gc : Nat} {S : Sto} {R : RSt} (h : StoR w g gc S R) (hf : Fr L w w') (h1 : g ∉ L) (h2 : gc ∉ L) : StoR w' g gc S R := ⟨h.r.fr hf h1, h.c.fr hf h2, h.left⟩
theorem StoR.at0 {w : World} {g gc : Nat} {S : Sto} {R : RSt} (h : StoR w g gc S R) : w.cell? ⟨g, 0, none⟩ = some (.slice (some ⟨gc, 0, none⟩) 8 8) := by rw [Row.cell h.r 0 (by omega)]; rfl
theorem StoR.at1 {w : World} {g gc : Nat} {S : Sto} {R : RSt} (h : StoR w g gc S R) : w.cell? ⟨g, 1, none⟩ = some (.int .i64 R.writes) := by rw [Row.cell h.r 1 (by omega)]; rfl
theorem StoR.at2 {w : World} {g gc : Nat} {S : Sto} {R : RSt} (h : StoR w g gc S R) : w.cell? ⟨g, 2, none⟩ = some (.int .i64 R.due) := by rw [Row.cell h.r 2 (by omega)]; rfl
theorem StoR.at3 {w : World} {g gc : Nat} {S : Sto} {R : RSt} (h : StoR w g gc S R) : w.cell? ⟨g, 3, none⟩ = some (.bool S.done) := by rw [Row.cell h.r 3 (by omega)]; rfl
theorem StoR.at4 {w : World} {g gc : Nat} {S : Sto} {R : RSt} (h : StoR w g gc S R) : w.cell? ⟨g, 4, none⟩ = some (.int .i64 R.user) := by rw [Row.cell h.r 4 (by omega)]; rfl
theorem StoR.at5 {w : World} {g gc : Nat} {S : Sto} {R : RSt} (h : StoR w g gc S R) : w.cell? ⟨g, 5, none⟩ = some (.int .i64 R.tables) := by rw [Row.cell h.r 5 (by omega)]; rfl
def newR : RSt := ⟨0, 0, 0, 0⟩
theorem made9 (w : World) : (Instr.makeSlice 46 (.int .i64 8) (.int .i64 8)).run Tryz.prog w = .ok (.slice (some ⟨w.heap.size, 0, none⟩) 8 8) (w.alloc (.cells (arr 8 fun _ => .string ⟨#[]⟩) 9)) := by
  have := run_make_row' (P := Tryz.prog) 46 9 (.string ⟨#[]⟩) 16 Tryz.underlying46 (by kernel_rfl) rfl .i64 .i64 8 (by omega) (by omega) w
  refine this.trans ?_
  kernel_rfl
set_option maxRecDepth 100000 in
set_option maxHeartbeats 1000000 in
theorem refNew_any (w : World) : Calls Tryz.prog 60 #[] w fun e w' => e = .returned (ptr (w.heap.size + 1)) ∧ StoR w' (w.heap.size + 1) w.heap.size newSto newR ∧ Below w.heap.size w w' := by
  have hm := made9 w
  go_enter Tryz.func60, Tryz.ntmps60
  go_wp2
  go_ret
  refine ⟨rfl, ⟨?_, ?_, rfl⟩, ((Below.refl _ _).alloc (Nat.le_refl _) _).alloc (by simp) _⟩
  · exact Row.lit _ _ _ _ _ _ (by simp) rfl
  · exact Row.alloc (Row.new w 8 9 _ _ rfl) _
set_option maxRecDepth 100000 in
set_option maxHeartbeats 1000000 in
theorem refCell_any (g gc : Nat) (S : Sto) (R : RSt) (i : Int) (w : World) (h : StoR w g gc S R) :
    Calls Tryz.prog 61 #[ptr g, .int .i64 i] w fun e w' => e = .returned (.tuple #[.string (cellM S i).1, .int .i64 (cellM S i).2]) ∧ w' = w := by
  unfold ptr cellM inCell
  by_cases hi : i < 0
  · rw [if_neg (by simp; omega)]
    go_enter Tryz.func61, Tryz.ntmps61
    go_wp2
    go_ret2
    exact ⟨rfl, rfl⟩
  · by_cases h8 : 8 ≤ i
    · rw [if_neg (by simp; omega)]
      go_enter Tryz.func61, Tryz.ntmps61
      go_wp2
      go_ret2
      exact ⟨rfl, rfl⟩
    · rw [if_pos (by simp; omega)]
      obtain ⟨k, rfl⟩ : ∃ k : Nat, i = k := ⟨i.toNat, by omega⟩
      have hk : k < 8 := by omega
      have c := Row.cell h.c k hk
      have a0 := h.at0
      rw [Int.toNat_natCast]
      go_enter Tryz.func61, Tryz.ntmps61
      go_wp2
      go_ret2
      exact ⟨rfl, rfl⟩
end Go.Proofs.YtgalgjmhdbncbaaGreat
namespace Go.Proofs.YtgalgjmhdbncbaaGreat
open Go.RowKit
attribute [local go_sem ↓] Go.wp_at_zero Go.wp_at_succ

theorem StoR.setWrites {w : World} {g gc : Nat} {d : Bool} {R : RSt} (h : Row w g 6 168 (refV gc R d)) (n : Nat) : Row (w.setCell ⟨g, 1, none⟩ (.int .i64 n)) g 6 168 (refV gc { R with writes := n } d) := by
  refine Row.congr (Row.set h 1 _) (fun j hj => ?_)
  by_cases e : j = 1
  · subst e; simp [refV]
  · simp [refV, e]
theorem StoR.setDue {w : World} {g gc : Nat} {d : Bool} {R : RSt} (h : Row w g 6 168 (refV gc R d)) (n : Nat) : Row (w.setCell ⟨g, 2, none⟩ (.int .i64 n)) g 6 168 (refV gc { R with due := n } d) := by
  refine Row.congr (Row.set h 2 _) (fun j hj => ?_)
  by_cases e : j = 2
  · subst e; simp [refV]
  · simp [refV, e]
theorem StoR.setDone {w : World} {g gc : Nat} {d : Bool} {R : RSt} (h : Row w g 6 168 (refV gc R d)) (b : Bool) : Row (w.setCell ⟨g, 3, none⟩ (.bool b)) g 6 168 (refV gc R b) := by
  refine Row.congr (Row.set h 3 _) (fun j hj => ?_)
  by_cases e : j = 3
  · subst e; simp [refV]
  · simp [refV, e]
theorem StoR.setCell {w : World} {gc : Nat} {c : Nat → ByteArray} (h : Row w gc 8 9 (fun j => .string (c j))) (k : Nat) (x : ByteArray) : Row (w.setCell ⟨gc, k, none⟩ (.string x)) gc 8 9 (fun j => .string ((fun j => if j = k then x else c j) j)) := by
  refine Row.congr (Row.set h k _) (fun j hj => ?_)
  by_cases e : j = k
  · subst e; simp
  · simp [e]
def wroteR (i : Int) (x : ByteArray) (R : RSt) : RSt := if inCell i = false then R else if 64 < x.size then R else { R with writes := R.writes + 1 }
theorem notIn (i : Int) (h : inCell i = false) : i < 0 ∨ 8 ≤ i := by
  have : ¬ (0 ≤ i ∧ i < 8) := by simpa [inCell] using h
  omega
set_option maxRecDepth 100000 in
set_option maxHeartbeats 1000000 in
theorem refWrite_any (g gc : Nat) (S : Sto) (R : RSt) (i : Int) (x : ByteArray) (hw : R.writes < 4611686018427387904) (w : World) (h : StoR w g gc S R) :
    Calls Tryz.prog 63 #[ptr g, .int .i64 i, .string x] w fun e w' => e = .returned (.int .i64 (writeM S i x)) ∧ StoR w' g gc (wroteM S i x) (wroteR i x R) ∧ Fr [g, gc] w w' := by
  unfold writeM wroteM wroteR
  by_cases hi : inCell i = false
  · rw [if_pos hi, if_pos hi, if_pos hi]
    unfold ptr
    rcases notIn i hi with hi | hi
    · go_enter Tryz.func63, Tryz.ntmps63
      go_wp2
      go_ret
      exact ⟨rfl, h, Fr.refl _ _⟩
    · have hn : (decide (i < 0)) = false := by simp; omega
      go_enter Tryz.func63, Tryz.ntmps63
      go_wp2
      go_ret
      exact ⟨rfl, h, Fr.refl _ _⟩
  · rw [if_neg hi, if_neg hi, if_neg hi]
    have hi : inCell i = true := by simpa using hi
    have hi' : 0 ≤ i ∧ i < 8 := by simpa [inCell] using hi
    obtain ⟨k, rfl⟩ : ∃ k : Nat, i = k := ⟨i.toNat, by omega⟩
    have hk : k < 8 := by omega
    rw [Int.toNat_natCast]
    clear hi hi'
    by_cases hz : 64 < x.size
    · rw [if_pos hz, if_pos hz, if_pos hz]
      unfold ptr
      go_enter Tryz.func63, Tryz.ntmps63
      go_wp2
      go_ret
      exact ⟨rfl, h, Fr.refl _ _⟩
    · rw [if_neg hz, if_neg hz, if_neg hz]
      unfold ptr
      have main : ∀ (d c : Bool) (S2 : Sto) (r : Int), ((R.writes : Int) + 1 == (R.due : Int)) = d → S.done = c → r = (if d then 8 else 0) → S2 = (if d = true ∧ c = false then { S with left := S.left - 1 } else { S with left := S.left - 1, cell := fun j => if j = k then x else S.cell j }) →
          Calls Tryz.prog 63 #[.pointer (some ⟨g, 0, none⟩), .int .i64 (k : Int), .string x] w fun e w' => e = .returned (.int .i64 r) ∧ StoR w' g gc S2 { R with writes := R.writes + 1 } ∧ Fr [g, gc] w w' := by
        intro d c S2 r hd hc hr hS2
        have hne := h.ne
        have H1 : Hid _ := h
        have hl := h.left
        have f1 := Row.frozen h.r 1
        have a1 := h.at1
        have hr1 := StoR.setWrites h.r (R.writes + 1)
        have hc1 := Row.other h.c (g' := g) (k := 1) (v := .int .i64 (R.writes + 1 : Nat)) (fun e => hne e.symm)
        rw [show ((R.writes + 1 : Nat) : Int) = (R.writes : Int) + 1 by omega] at hr1 hc1
        clear h
        have hwr : IntKind.i64.wrap ((R.writes : Int) + 1) = (R.writes : Int) + 1 := by
          have := wrap_i64_ediv ((R.writes : Int) + 1) 1 (by omega) (by omega) (by omega)
          rwa [Int.ediv_one] at this
        go_enter Tryz.func63, Tryz.ntmps63
        go_wp2_with fail
        suffices H : ∀ W, Row W g 6 168 (refV gc { R with writes := R.writes + 1 } S.done) → Row W gc 8 9 (fun j => .string (S.cell j)) → Fr [g, gc] w W → Code.wp Tryz.prog _ _ _ W from H _ hr1 hc1 (Fr.setCell (Fr.refl _ _) (.inr (by simp)) _)
        clear hr1 hc1 a1 f1
        intro W hr1 hc1 hf
        have b0 : W.cell? ⟨g, 0, none⟩ = some (.slice (some ⟨gc, 0, none⟩) 8 8) := by rw [Row.cell hr1 0 (by omega)]; rfl
        have b1 : W.cell? ⟨g, 1, none⟩ = some (.int .i64 ((R.writes : Int) + 1)) := by rw [Row.cell hr1 1 (by omega)]; rfl
        have b2 : W.cell? ⟨g, 2, none⟩ = some (.int .i64 R.due) := by rw [Row.cell hr1 2 (by omega)]; rfl
        have b3 : W.cell? ⟨g, 3, none⟩ = some (.bool S.done) := by rw [Row.cell hr1 3 (by omega)]; rfl
        have ck := Row.cell hc1 k hk
        have fk := Row.frozen hc1 k
        rw [hc] at b3 hr1
        go_region
        have hf2 := hf.drew
        have hr2 := hr1.drew
        have hc2 := hc1.drew
        have hcs := StoR.setCell hc2 k x
        have hrs := Row.other hr2 (g' := gc) (k := k) (v := .string x) hne
        have hfs := Fr.setCell hf2 (a := ⟨gc, k, none⟩) (.inr (by simp)) (.string x)
        clear H1 hf hr1 hc1
        cases d <;> cases c <;> simp only [Bool.false_eq_true, if_false, if_true, and_self, and_false, and_true, reduceCtorEq] at hr hS2 <;> subst hr <;> go_wp2 <;> go_ret <;> subst hS2
        · exact ⟨rfl, ⟨by dsimp only; first | exact hrs | (rw [hc]; exact hrs), hcs, by dsimp only; omega⟩, hfs⟩
        · exact ⟨rfl, ⟨by dsimp only; first | exact hrs | (rw [hc]; exact hrs), hcs, by dsimp only; omega⟩, hfs⟩
        · exact ⟨rfl, ⟨by dsimp only; first | exact hr2 | (rw [hc]; exact hr2), hc2, by dsimp only; omega⟩, hf2⟩
        · exact ⟨rfl, ⟨by dsimp only; first | exact hrs | (rw [hc]; exact hrs), hcs, by dsimp only; omega⟩, hfs⟩
      have hl := h.left
      have hd : ((R.writes : Int) + 1 == (R.due : Int)) = decide (S.left = 1) := by
        rw [Bool.eq_iff_iff, beq_iff_eq, decide_eq_true_iff]; omega
      refine main _ _ _ _ hd rfl ?_ ?_
      · simp
      · by_cases h1 : S.left = 1 ∧ S.done = false
        · rw [if_pos h1, if_pos (by simpa using h1)]
        · rw [if_neg h1, if_neg (by simpa using h1)]
def interR (k : Int) (R : RSt) : RSt := if k < 0 then R else { R with writes := 0, due := k.toNat }
set_option maxRecDepth 100000 in
set_option maxHeartbeats 1000000 in
theorem refInterrupt_any (g gc : Nat) (S : Sto) (R : RSt) (k : Int) (d : Bool) (w : World) (h : StoR w g gc S R) :
    Calls Tryz.prog 64 #[ptr g, .int .i64 k, .bool d] w fun e w' => e = .returned (.int .i64 (if k < 0 then 1 else 0)) ∧ StoR w' g gc (interM S k d) (interR k R) ∧ Chg g w w' := by
  unfold ptr interM interR
  by_cases hk : k < 0
  · rw [if_pos hk, if_pos hk, if_pos hk]
    go_enter Tryz.func64, Tryz.ntmps64
    go_wp2
    go_ret
    exact ⟨rfl, h, Chg.refl _ _⟩
  · rw [if_neg hk, if_neg hk, if_neg hk]
    obtain ⟨n, rfl⟩ : ∃ n : Nat, k = n := ⟨k.toNat, by omega⟩
    have a1 := h.at1
    have a2 := h.at2
    have a3 := h.at3
    have f1 := Row.frozen h.r 1
    have f2 := Row.frozen h.r 2
    have f3 := Row.frozen h.r 3
    go_enter Tryz.func64, Tryz.ntmps64
    go_wp2
    go_ret
    refine ⟨rfl, ⟨StoR.setDone (StoR.setDue (StoR.setWrites h.r 0) n) d, ?_, by simp⟩, Chg.setCell (Chg.setCell (Chg.setCell (Chg.refl _ _) _ _) _ _) _ _⟩
    exact ((h.c.other (fun e => h.ne e.symm)).other (fun e => h.ne e.symm)).other (fun e => h.ne e.symm)
end Go.Proofs.YtgalgjmhdbncbaaGreat
namespace Go.Proofs.YtgalgjmhdbncbaaGreat
open Go.RowKit
attribute [local go_sem ↓] Go.wp_at_zero Go.wp_at_succ
attribute [local go_sem ↓] ldw40 stw40 al40
attribute [local go_sem] run_ldT40 ldN_row run_stT40 stN_row stN_z run_al40
attribute [local go_sem] blk_new blk_at blk_old blk_drew blk_setCell blk_setRow alloc_setRow

def nextF (f : Nat → UInt8) : Nat → UInt8 := putF f 12 4 (valF f 12 4 + 1)
theorem Below.of_chg {B g : Nat} {w w' : World} (hc : Chg g w w') (hg : B ≤ g) : Below B w w' := Below.chg (Below.refl _ _) hc hg
set_option maxRecDepth 100000 in
set_option maxHeartbeats 400000 in
theorem next_any (f : Nat → UInt8) (w : World) :
    Calls Tryz.prog 140 #[.agg (arr 16 (by8 f))] w fun e w' => e = .returned (.agg (arr 16 (by8 (nextF f)))) ∧ Below w.heap.size w w' := by
  have hv := valF_lt f 12 4
  have h4 : (256 : Nat) ^ 4 = 4294967296 := rfl
  rw [h4] at hv
  clear h4
  go_enter Tryz.func140, Tryz.ntmps140
  go_wp2_with fail
  refine (nof_any w.heap.size 12 4 4 16 145 f (by omega) (by omega) (by omega) _ ((Row.new _ _ _ _ _ rfl).alloc _)).mono ?_
  rintro e W ⟨rfl, hw⟩
  have r0 : Row W w.heap.size 16 145 (by8 f) := by rw [hw]; exact (Row.new _ _ _ _ _ rfl).alloc _
  have r1 : Row W (w.heap.size + 1) 16 145 z8 := by rw [hw]; exact Row.new _ _ _ _ _ (by simp)
  have bW : Below w.heap.size w W := by rw [hw]; exact ((Below.refl _ _).alloc (Nat.le_refl _) _).alloc (by simp) _
  clear hw
  generalize hV : valF f 12 4 = V at *
  have HV : Hid _ := hV
  clear hV
  have hp := fun w' => put_any w.heap.size 12 4 4 16 145 f (V + 1) (by omega) (by omega) (by omega) w'
  rw [show ((V + 1 : Nat) : Int) = (V : Int) + 1 by omega] at hp
  have HP : Hid _ := hp
  clear hp
  go_wp2_with fail
  refine (HP.out _ r0).mono ?_
  rintro e w2 ⟨rfl, hc, r2⟩
  have r1' := r1.chg hc (by omega)
  have q2 := heap_pos r2
  have q1 := heap_pos r1'
  go_wp2
  refine bodyPost_ret (res40 Tryz.results140 _ _ (w.heap.size + 1) _ rfl r1'.setRow) rfl ⟨?_, ?_⟩
  · unfold nextF
    rw [HV.out]
  · exact Below.setRow (Below.chg bW hc (by omega)) (by omega) _

theorem num4 (x j : Nat) (hj : j < 4) : numF (x % 4294967296) 4 j = numF x 4 j := by
  unfold numF
  apply UInt8.toNat_inj.1
  rw [UInt8.toNat_ofNat', UInt8.toNat_ofNat']
  rcases (by omega : j = 0 ∨ j = 1 ∨ j = 2 ∨ j = 3) with rfl | rfl | rfl | rfl
  · show x % 4294967296 / 16777216 % 256 = x / 16777216 % 256; omega
  · show x % 4294967296 / 65536 % 256 = x / 65536 % 256; omega
  · show x % 4294967296 / 256 % 256 = x / 256 % 256; omega
  · show x % 4294967296 / 1 % 256 = x / 1 % 256; omega
theorem valF_congr {f g : Nat → UInt8} {a : Nat} : ∀ n, (∀ j, j < n → f (a + j) = g (a + j)) → valF f a n = valF g a n
  | 0, _ => rfl
  | n + 1, h => by simp only [valF]; rw [valF_congr n (fun j hj => h j (by omega)), h n (by omega)]
theorem val_num4 (x a : Nat) (f : Nat → UInt8) (hf : ∀ j, j < 4 → f (a + j) = numF x 4 j) : valF f a 4 = x % 4294967296 := by
  have e0 := hf 0 (by omega)
  have e1 := hf 1 (by omega)
  have e2 := hf 2 (by omega)
  have e3 := hf 3 (by omega)
  simp only [valF]
  rw [e0, e1, e2, e3]
  unfold numF
  simp only [UInt8.toNat_ofNat']
  show ((((0 * 256 + x / 16777216 % 256) * 256 + x / 65536 % 256) * 256 + x / 256 % 256) * 256 + x / 1 % 256) = _
  omega
end Go.Proofs.YtgalgjmhdbncbaaGreat
