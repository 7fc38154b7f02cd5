import Derived.Test.YtgalgjmhdbncbabGreatZb02
namespace Go.Proofs.YtgalgjmhdbncbabGreat
open Go.RowKit

theorem Chg.refl (g : Nat) (w : World) : Chg g w w := ⟨rfl, rfl, rfl, rfl, fun _ _ => rfl⟩
theorem Chg.setCell {g : Nat} {w w' : World} (h : Chg g w w') (o : Nat) (v : Value) : Chg g w (w'.setCell ⟨g, o, none⟩ v) :=
  ⟨h.os, h.tape, h.output, by rw [← h.size]; simp, fun k hk => by rw [heap_skip _ _ _ _ _ hk]; exact h.block k hk⟩
theorem Chg.trans {g : Nat} {a b c : World} (h : Chg g a b) (h' : Chg g b c) : Chg g a c :=
  ⟨h'.os.trans h.os, h'.tape.trans h.tape, h'.output.trans h.output, h'.size.trans h.size, fun k hk => (h'.block k hk).trans (h.block k hk)⟩

def putF (f : Nat → UInt8) (off n v j : Nat) : UInt8 := if off ≤ j ∧ j < off + n then numF v n (j - off) else f j
theorem low8n (u : Nat) : ((u : Int) % (256 : Int)) = (((UInt8.ofNat u).toNat : Nat) : Int) := by
  rw [UInt8.toNat_ofNat']; omega

set_option maxHeartbeats 400000 in
theorem put_any (g off n cap m : Nat) (t : TypeId) (f : Nat → UInt8) (v : Nat) (hv : v < 18446744073709551616) (hm : off + n ≤ m) (hn : n ≤ 1000) (w : World) (hr : Row w g m t (by8 f)) :
    Calls Tryz.prog 126 #[.slice (some ⟨g, off, none⟩) n cap, .int .u64 v] w fun e w' => e = .returned (.tuple #[]) ∧ Chg g w w' ∧ Row w' g m t (by8 (putF f off n v)) := by
  go_enter Tryz.func126, Tryz.ntmps126
  go_wp2
  go_loopw [1, 4] (fun x i wr => ∃ q u : Nat, Hid (u = v / 256 ^ (n - q)) ∧ u < 18446744073709551616 ∧ q ≤ n ∧ x = .int .u64 u ∧ i = .int .i64 ((q : Int) - 1) ∧ Chg g w wr ∧ Row wr g m t (by8 fun j => if off + q ≤ j ∧ j < off + n then numF v n (j - off) else f j)) (fun _ i _ => (intOf i + 1).toNat)
  case atStart =>
    refine ⟨n, v, by show v = v / 256 ^ (n - n); simp, hv, Nat.le_refl _, rfl, by go_num, Chg.refl _ _, hr.congr fun j hj => ?_⟩
    simp only [by8]
    rw [if_neg (by omega)]
  case round =>
    clear hr
    obtain ⟨q, u, HU, hu, hq, rfl, rfl, hC, r0⟩ := hrel
    match q, hq, HU, r0 with
    | 0, hq, HU, r0 =>
      go_wp2
      go_end0
      refine ⟨rfl, hC, r0.congr fun j hj => ?_⟩
      simp only [by8, putF, Nat.add_zero]
    | p + 1, hq, HU, r0 =>
      rw [show (((p + 1 : Nat) : Int) - 1) = (p : Int) by omega]
      have c0 := r0.cell (off + p) (by omega)
      have f0 := r0.frozen (off + p)
      have HL : Hid _ := low8n u
      have HQ : Hid (u / 256 = v / 256 ^ (n - p)) := by
        show u / 256 = _
        rw [HU.out, Nat.div_div_eq_div_mul, show n - p = n - (p + 1) + 1 by omega, Nat.pow_succ]
      have hqu : u / 256 < 18446744073709551616 := by omega
      go_wp2
      rw [HL.out]
      go_roundw
      case rel =>
        refine ⟨p, u / 256, HQ, hqu, by omega, by go_num, by go_num, hC.setCell _ _, (r0.set (off + p) _).congr fun j hj => ?_⟩
        by_cases hj : j = off + p
        · subst hj
          simp only [by8, if_true]
          rw [if_pos (by omega)]
          unfold numF
          rw [show n - 1 - (off + p - off) = n - (p + 1) by omega, ← HU.out]
        · simp only [by8, hj, if_false]
          by_cases h2 : off + (p + 1) ≤ j ∧ j < off + n
          · rw [if_pos h2, if_pos (by omega)]
          · rw [if_neg h2, if_neg (by omega)]
      case measure => simp [intOf]

theorem valF_lt (f : Nat → UInt8) (a : Nat) : ∀ n, valF f a n < 256 ^ n
  | 0 => by simp [valF]
  | n + 1 => by
    have := valF_lt f a n
    have := (f (a + n)).toNat_lt
    simp only [valF, Nat.pow_succ]
    omega
theorem or_byte (x : Nat) (b : UInt8) (hx : x < 72057594037927936) : bits .or .u64 ((x : Int) * 256) (b.toNat : Int) = ((x * 256 + b.toNat : Nat) : Int) := by
  have hb := b.toNat_lt
  rw [show (x : Int) * 256 = ((x * 256 : Nat) : Int) by omega, u64_or_nat _ _ (by omega) (by omega)]
  congr 1
  have := Nat.two_pow_add_eq_or_of_lt (i := 8) (b := b.toNat) (by omega) x
  rw [Nat.mul_comm x 256, show (256 : Nat) = 2 ^ 8 from rfl, this]

set_option maxRecDepth 100000 in
set_option maxHeartbeats 400000 in
theorem nof_cells (g off n cap : Nat) (f : Nat → UInt8) (hn : n ≤ 7) (hc : n ≤ cap) (w : World) (hr : ∀ j, j < n → w.cell? ⟨g, off + j, none⟩ = some (.int .u8 (f (off + j)).toNat)) :
    Calls Tryz.prog 96 #[.slice (some ⟨g, off, none⟩) n cap] w fun e w' => e = .returned (.int .u64 (valF f off n)) ∧ w' = w := by
  go_enter Tryz.func96, Tryz.ntmps96
  go_wp2
  go_loop [3, 5, 8] (fun x _ i => ∃ q u : Nat, Hid (u = valF f off q) ∧ q ≤ n ∧ x = .int .u64 u ∧ i = .int .i64 q) (fun _ _ i => n - (intOf i).toNat)
  case atStart => exact ⟨0, 0, rfl, by omega, rfl, rfl⟩
  case round =>
    obtain ⟨q, u, HU, hq, rfl, rfl⟩ := hrel
    by_cases hlt : q < n
    · have c0 : w.cell? ⟨g, off + q, none⟩ = some (.int .u8 (f (off + q)).toNat) := hr q hlt
      have hbb : ((f (off + q)).toNat : Int) < 256 := by have := (f (off + q)).toNat_lt; omega
      have hu : u < 72057594037927936 := by
        have h1 := valF_lt f off q
        have h2 : 256 ^ q ≤ 256 ^ 6 := Nat.pow_le_pow_right (by omega) (by omega)
        rw [← HU.out] at h1
        have : (256 : Nat) ^ 6 = 281474976710656 := rfl
        omega
      have HO : Hid _ := or_byte u (f (off + q)) hu
      go_wp2
      rw [HO.out]
      go_round
      case rel =>
        refine ⟨q + 1, u * 256 + (f (off + q)).toNat, ?_, by omega, rfl, by go_num⟩
        show _ = valF f off q * 256 + (f (off + q)).toNat
        rw [← HU.out]
      case measure => simp [intOf]; omega
    · have hqn : q = n := by omega
      subst hqn
      go_wp2
      go_ret
      exact ⟨by rw [HU.out]; rfl, rfl⟩
theorem nof_any (g off n cap m : Nat) (t : TypeId) (f : Nat → UInt8) (hm : off + n ≤ m) (hn : n ≤ 7) (hc : n ≤ cap) (w : World) (hr : Row w g m t (by8 f)) :
    Calls Tryz.prog 96 #[.slice (some ⟨g, off, none⟩) n cap] w fun e w' => e = .returned (.int .u64 (valF f off n)) ∧ w' = w :=
  nof_cells g off n cap f hn hc w fun j hj => hr.cell (off + j) (by omega)
end Go.Proofs.YtgalgjmhdbncbabGreat
namespace Go.Proofs.YtgalgjmhdbncbabGreat
open Go.RowKit
attribute [local go_sem ↓] Go.wp_at_zero Go.wp_at_succ

structure Fr (L : List Nat) (w w' : World) : Prop where
  os : w'.os = w.os
  tape : w'.tape = w.tape
  output : w'.output = w.output
  size : w.heap.size ≤ w'.heap.size
  block : ∀ k, k < w.heap.size → k ∉ L → w'.heap[k]? = w.heap[k]?
theorem Fr.refl (L : List Nat) (w : World) : Fr L w w := ⟨rfl, rfl, rfl, Nat.le_refl _, fun _ _ _ => rfl⟩
theorem Fr.trans {L : List Nat} {a b c : World} (h : Fr L a b) (k : Fr L b c) : Fr L a c :=
  ⟨k.os.trans h.os, k.tape.trans h.tape, k.output.trans h.output, Nat.le_trans h.size k.size, fun i hi hn => (k.block i (Nat.lt_of_lt_of_le hi h.size) hn).trans (h.block i hi hn)⟩
theorem Fr.mono {L L' : List Nat} {w w' : World} (h : Fr L w w') (hL : ∀ k, k < w.heap.size → k ∈ L → k ∈ L') : Fr L' w w' :=
  ⟨h.os, h.tape, h.output, h.size, fun k hk hn => h.block k hk (fun hm => hn (hL k hk hm))⟩
theorem Fr.sub {L L' : List Nat} {w w' : World} (h : Fr L w w') (hL : ∀ k, k ∈ L → k ∈ L') : Fr L' w w' := h.mono fun k _ => hL k
theorem Fr.of_below {w w' : World} {B : Nat} (L : List Nat) (h : Below B w w') (hB : w.heap.size ≤ B) : Fr L w w' := ⟨h.os, h.tape, h.output, h.size, fun k hk _ => h.block k (by omega)⟩
theorem Fr.of_chg {g : Nat} {w w' : World} {L : List Nat} (h : Chg g w w') (hg : g ∈ L) : Fr L w w' :=
  ⟨h.os, h.tape, h.output, Nat.le_of_eq h.size.symm, fun k _ hn => h.block k (fun e => hn (e ▸ hg))⟩
theorem Fr.drew {L : List Nat} {w w' : World} (h : Fr L w w') : Fr L w w'.drew := ⟨h.os, h.tape, h.output, h.size, h.block⟩
theorem Fr.alloc {L : List Nat} {w w' : World} (h : Fr L w w') (o : Obj) : Fr L w (w'.alloc o) :=
  h.trans ⟨rfl, rfl, rfl, by simp, fun k hk _ => Below.heap_alloc _ _ _ hk⟩
theorem Fr.setCell {L : List Nat} {w w' : World} (h : Fr L w w') {a : Addr} (ha : w.heap.size ≤ a.block ∨ a.block ∈ L) (v : Value) : Fr L w (w'.setCell a v) :=
  ⟨h.os, h.tape, h.output, by simpa [World.setCell] using h.size, fun k hk hn => by
    rw [Below.heap_setCell _ _ _ _ (by rintro rfl; rcases ha with ha | ha; omega; exact hn ha)]; exact h.block k hk hn⟩
theorem Row.fr {w w' : World} {L : List Nat} {g n : Nat} {t : TypeId} {V : Nat → Value} (h : Row w g n t V) (hf : Fr L w w') (hg : g ∉ L) : Row w' g n t V := by
  unfold Row; rw [hf.block g h.lt hg]; exact h
theorem Fr.below {w w' : World} {L : List Nat} {B : Nat} (h : Fr L w w') (hB : B ≤ w.heap.size) (hL : ∀ k, k ∈ L → B ≤ k) : Below B w w' :=
  ⟨h.os, h.tape, h.output, h.size, fun k hk => h.block k (by omega) (fun hm => by have := hL k hm; omega)⟩
theorem Row.ne {w : World} {g g' n n' : Nat} {t t' : TypeId} {V V' : Nat → Value} (h : Row w g n t V) (h' : Row w g' n' t' V') (ht : t ≠ t') : g ≠ g' := by
  rintro rfl
  unfold Row at h h'
  rw [h] at h'
  simp only [Option.some.injEq, Obj.cells.injEq] at h'
  exact ht h'.2.1

structure Sto where
  cell : Nat → ByteArray
  left : Nat
  done : Bool
  tab : Option Nat
def ptr (g : Nat) : Value := .pointer (some ⟨g, 0, none⟩)
def ptrO : Option Nat → Value
  | none => .pointer none
  | some g => .pointer (some ⟨g, 0, none⟩)
def stoV (S : Sto) (j : Nat) : Value := if j < 8 then .string (S.cell j) else if j = 8 then .int .i64 S.left else if j = 9 then .bool S.done else ptrO S.tab
def StoP (w : World) (g : Nat) (S : Sto) : Prop := Row w g 11 94 (stoV S)
theorem StoP.cellAt {w : World} {g : Nat} {S : Sto} (h : StoP w g S) (k : Nat) (hk : k < 8) : w.cell? ⟨g, k, none⟩ = some (.string (S.cell k)) := by
  rw [Row.cell h k (by omega)]; simp [stoV, hk]
theorem StoP.leftAt {w : World} {g : Nat} {S : Sto} (h : StoP w g S) : w.cell? ⟨g, 8, none⟩ = some (.int .i64 S.left) := by rw [Row.cell h 8 (by omega)]; rfl
theorem StoP.doneAt {w : World} {g : Nat} {S : Sto} (h : StoP w g S) : w.cell? ⟨g, 9, none⟩ = some (.bool S.done) := by rw [Row.cell h 9 (by omega)]; rfl
theorem StoP.tabAt {w : World} {g : Nat} {S : Sto} (h : StoP w g S) : w.cell? ⟨g, 10, none⟩ = some (ptrO S.tab) := by rw [Row.cell h 10 (by omega)]; rfl
theorem StoP.setCell {w : World} {g : Nat} {S : Sto} (h : StoP w g S) (k : Nat) (hk : k < 8) (x : ByteArray) : StoP (w.setCell ⟨g, k, none⟩ (.string x)) g { S with cell := fun j => if j = k then x else S.cell j } := by
  refine Row.congr (Row.set h k _) (fun j hj => ?_)
  by_cases e : j = k
  · subst e; simp [stoV, hk]
  · simp [stoV, e]
theorem StoP.setLeft {w : World} {g : Nat} {S : Sto} (h : StoP w g S) (n : Nat) : StoP (w.setCell ⟨g, 8, none⟩ (.int .i64 n)) g { S with left := n } := by
  refine Row.congr (Row.set h 8 _) (fun j hj => ?_)
  by_cases e : j = 8
  · subst e; simp [stoV]
  · simp [stoV, e]
theorem StoP.setDone {w : World} {g : Nat} {S : Sto} (h : StoP w g S) (b : Bool) : StoP (w.setCell ⟨g, 9, none⟩ (.bool b)) g { S with done := b } := by
  refine Row.congr (Row.set h 9 _) (fun j hj => ?_)
  by_cases e : j = 9
  · subst e; simp [stoV]
  · simp [stoV, e]
theorem StoP.setTab {w : World} {g : Nat} {S : Sto} (h : StoP w g S) (t : Option Nat) : StoP (w.setCell ⟨g, 10, none⟩ (ptrO t)) g { S with tab := t } := by
  refine Row.congr (Row.set h 10 _) (fun j hj => ?_)
  by_cases e : j = 10
  · subst e; simp [stoV]
  · simp only [stoV, e, if_false]
    repeat (split; rfl)
    omega
def newSto : Sto := ⟨fun _ => ⟨#[]⟩, 0, false, none⟩
set_option maxRecDepth 100000 in
set_option maxHeartbeats 1000000 in
theorem newStore_any (w : World) : Calls Tryz.prog 17 #[] w fun e w' => e = .returned (ptr w.heap.size) ∧ StoP w' w.heap.size newSto ∧ Below w.heap.size w w' := by
  go_enter Tryz.func17, Tryz.ntmps17
  go_wp2
  go_ret
  refine ⟨rfl, ?_, (Below.refl _ _).alloc (Nat.le_refl _) _⟩
  exact Row.lit _ _ _ _ _ _ rfl (by kernel_rfl)

def inCell (i : Int) : Bool := decide (0 ≤ i ∧ i < 8)
set_option maxHeartbeats 1000000 in
theorem isCell_any (i : Int) (w : World) : Calls Tryz.prog 49 #[.int .i64 i] w fun e w' => e = .returned (.bool (inCell i)) ∧ w' = w := by
  go_enter Tryz.func49, Tryz.ntmps49
  by_cases h1 : 0 ≤ i
  · go_wp2
    go_ret
    refine ⟨?_, rfl⟩
    simp [inCell, h1]
  · have : (decide (0 ≤ i)) = false := by simp [h1]
    go_wp2
    go_ret
    refine ⟨?_, rfl⟩
    simp [inCell]; omega

def cellM (S : Sto) (i : Int) : ByteArray × Int := if inCell i = true then (S.cell i.toNat, 0) else (⟨#[]⟩, 1)
set_option maxRecDepth 100000 in
set_option maxHeartbeats 1000000 in
theorem cell_any (g : Nat) (S : Sto) (i : Int) (w : World) (h : StoP w g S) :
    Calls Tryz.prog 19 #[ptr g, .int .i64 i] w fun e w' => e = .returned (.tuple #[.string (cellM S i).1, .int .i64 (cellM S i).2]) ∧ w' = w := by
  unfold ptr cellM
  by_cases hi : inCell i = true
  · rw [if_pos hi]
    have hi' : 0 ≤ i ∧ i < 8 := by simpa [inCell] using hi
    obtain ⟨k, rfl⟩ : ∃ k : Nat, i = k := ⟨i.toNat, by omega⟩
    have hk : k < 8 := by omega
    have c := StoP.cellAt h k hk
    rw [Int.toNat_natCast]
    go_enter Tryz.func19, Tryz.ntmps19
    go_wp2_with fail
    refine (isCell_any _ _).mono ?_
    rintro e w1 ⟨rfl, hw⟩
    subst hw
    go_wp2
    go_ret2
    exact ⟨rfl, rfl⟩
  · rw [if_neg hi]
    have hi : inCell i = false := by simpa using hi
    go_enter Tryz.func19, Tryz.ntmps19
    go_wp2_with fail
    refine (isCell_any _ _).mono ?_
    rintro e w1 ⟨rfl, hw⟩
    subst hw
    go_wp2
    go_ret2
    exact ⟨rfl, rfl⟩

set_option maxRecDepth 100000 in
set_option maxHeartbeats 1000000 in
theorem interrupted_any (g : Nat) (S : Sto) (hl : S.left ≤ 9223372036854775807) (w : World) (h : StoP w g S) :
    Calls Tryz.prog 50 #[ptr g] w fun e w' => e = .returned (.bool (decide (S.left = 1))) ∧ StoP w' g { S with left := S.left - 1 } ∧ Chg g w w' := by
  unfold ptr
  have c := StoP.leftAt h
  have f := Row.frozen h 8
  by_cases h0 : S.left = 0
  · have e0 : ((S.left : Int) == 0) = true := by rw [beq_iff_eq]; omega
    go_enter Tryz.func50, Tryz.ntmps50
    go_wp2
    go_ret
    refine ⟨by simp [h0], ?_, Chg.refl _ _⟩
    have : ({ S with left := S.left - 1 } : Sto) = S := by cases S; simp only [Sto.mk.injEq, and_true, true_and] at *; omega
    rw [this]; exact h
  · have e0 : ((S.left : Int) == 0) = false := by rw [beq_eq_false_iff_ne]; omega
    obtain ⟨L, hL⟩ : ∃ L, S.left = L + 1 := ⟨S.left - 1, by omega⟩
    rw [hL] at c e0 hl
    have e1 : IntKind.i64.wrap (((L + 1 : Nat) : Int) - 1) = (L : Int) := by
      rw [show ((L + 1 : Nat) : Int) - 1 = (L : Int) by omega]
      have := wrap_i64_ediv (L : Int) 1 (by omega) (by omega) (by omega)
      rwa [Int.ediv_one] at this
    rw [hL]
    have hS := StoP.setLeft h L
    have c2 := StoP.leftAt hS
    go_enter Tryz.func50, Tryz.ntmps50
    go_wp2
    go_ret
    refine ⟨congrArg (fun b => Ending.returned (Value.bool b)) (show ((L : Int) == 0) = decide (L = 0) from ?_), hS, Chg.setCell (Chg.refl _ _) _ _⟩
    rw [Bool.eq_iff_iff, beq_iff_eq, decide_eq_true_iff]
    omega
def writeM (S : Sto) (i : Int) (x : ByteArray) : Int := if inCell i = false then 1 else if 64 < x.size then 4 else if S.left = 1 then 8 else 0
def wroteM (S : Sto) (i : Int) (x : ByteArray) : Sto :=
  if inCell i = false then S else if 64 < x.size then S
  else { S with left := S.left - 1, cell := if S.left = 1 ∧ S.done = false then S.cell else fun j => if j = i.toNat then x else S.cell j }
set_option maxRecDepth 100000 in
set_option maxHeartbeats 1000000 in
theorem write_any (g : Nat) (S : Sto) (i : Int) (x : ByteArray) (hl : S.left ≤ 9223372036854775807) (w : World) (h : StoP w g S) :
    Calls Tryz.prog 22 #[ptr g, .int .i64 i, .string x] w fun e w' => e = .returned (.int .i64 (writeM S i x)) ∧ StoP w' g (wroteM S i x) ∧ Chg g w w' := by
  unfold writeM wroteM
  by_cases hi : inCell i = false
  · rw [if_pos hi, if_pos hi]
    unfold ptr
    go_enter Tryz.func22, Tryz.ntmps22
    go_wp2_with fail
    refine (isCell_any _ _).mono ?_
    rintro e w1 ⟨rfl, hw⟩
    subst hw
    go_wp2
    go_ret
    exact ⟨rfl, h, Chg.refl _ _⟩
  · rw [if_neg hi, if_neg hi]
    have hi : inCell i = true := by simpa using hi
    have hi' : 0 ≤ i ∧ i < 8 := by simpa [inCell] using hi
    obtain ⟨k, rfl⟩ : ∃ k : Nat, i = k := ⟨i.toNat, by omega⟩
    have hk : k < 8 := by omega
    rw [Int.toNat_natCast]
    by_cases hz : 64 < x.size
    · rw [if_pos hz, if_pos hz]
      unfold ptr
      go_enter Tryz.func22, Tryz.ntmps22
      go_wp2_with fail
      refine (isCell_any _ _).mono ?_
      rintro e w1 ⟨rfl, hw⟩
      subst hw
      go_wp2
      go_ret
      exact ⟨rfl, h, Chg.refl _ _⟩
    · rw [if_neg hz, if_neg hz]
      unfold ptr
      have hi2 := interrupted_any g S hl
      unfold ptr at hi2
      have HI : Hid _ := hi2
      clear hi2
      have main : ∀ (d c : Bool) (S2 : Sto) (r : Int), decide (S.left = 1) = d → S.done = c → r = (if d then 8 else 0) → S2 = (if d = true ∧ c = false then { S with left := S.left - 1 } else { S with left := S.left - 1, cell := fun j => if j = k then x else S.cell j }) →
          Calls Tryz.prog 22 #[.pointer (some ⟨g, 0, none⟩), .int .i64 (k : Int), .string x] w fun e w' => e = .returned (.int .i64 r) ∧ StoP w' g S2 ∧ Chg g w w' := by
        intro d c S2 r hd hc hr hS2
        rw [hd] at HI
        clear hl
        go_enter Tryz.func22, Tryz.ntmps22
        go_wp2_with fail
        refine (isCell_any _ _).mono ?_
        rintro e w1 ⟨rfl, hw⟩
        subst hw
        go_wp2_with fail
        refine (HI.out _ h).mono ?_
        rintro e w2 ⟨rfl, h2, c2⟩
        have d2 := StoP.doneAt h2
        have f2 := Row.frozen h2 k
        have k2 := StoP.cellAt h2 k hk
        have hS := StoP.setCell h2 k hk x
        dsimp only at d2 k2 hS
        rw [hc] at d2
        clear hd hc
        cases d <;> cases c <;> simp only [Bool.false_eq_true, if_false, if_true, and_self, and_false, and_true, reduceCtorEq] at hr hS2 <;> subst hr <;> go_wp2 <;> go_ret <;> subst hS2
        · exact ⟨rfl, hS, Chg.setCell c2 _ _⟩
        · exact ⟨rfl, hS, Chg.setCell c2 _ _⟩
        · exact ⟨rfl, h2, c2⟩
        · exact ⟨rfl, hS, Chg.setCell c2 _ _⟩
      refine main _ _ _ _ rfl rfl ?_ ?_
      · simp
      · by_cases h1 : S.left = 1 ∧ S.done = false
        · rw [if_pos h1, if_pos (by simpa using h1)]
        · rw [if_neg h1, if_neg (by simpa using h1)]
def interM (S : Sto) (k : Int) (d : Bool) : Sto := if k < 0 then S else { S with left := k.toNat, done := d }
set_option maxRecDepth 100000 in
set_option maxHeartbeats 1000000 in
theorem interrupt_any (g : Nat) (S : Sto) (k : Int) (d : Bool) (w : World) (h : StoP w g S) :
    Calls Tryz.prog 24 #[ptr g, .int .i64 k, .bool d] w fun e w' => e = .returned (.int .i64 (if k < 0 then 1 else 0)) ∧ StoP w' g (interM S k d) ∧ Chg g w w' := by
  unfold ptr interM
  by_cases hk : k < 0
  · rw [if_pos hk, if_pos hk]
    go_enter Tryz.func24, Tryz.ntmps24
    go_wp2
    go_ret
    exact ⟨rfl, h, Chg.refl _ _⟩
  · rw [if_neg hk, if_neg hk]
    obtain ⟨n, rfl⟩ : ∃ n : Nat, k = n := ⟨k.toNat, by omega⟩
    have c8 := StoP.leftAt h
    have c9 := StoP.doneAt h
    have f8 := Row.frozen h 8
    have f9 := Row.frozen h 9
    go_enter Tryz.func24, Tryz.ntmps24
    go_wp2
    go_ret
    exact ⟨rfl, StoP.setDone (StoP.setLeft h n) d, Chg.setCell (Chg.setCell (Chg.refl _ _) _ _) _ _⟩

structure RSt where
  writes : Nat
  due : Nat
  user : Nat
  tables : Nat
def refV (gc : Nat) (R : RSt) (d : Bool) (j : Nat) : Value :=
  if j = 0 then .slice (some ⟨gc, 0, none⟩) 8 8 else if j = 1 then .int .i64 R.writes else if j = 2 then .int .i64 R.due else if j = 3 then .bool d else if j = 4 then .int .i64 R.user else .int .i64 R.tables
structure StoR (w : World) (g gc : Nat) (S : Sto) (R : RSt) : Prop where
  r : Row w g 6 96 (refV gc R S.done)
  c : Row w gc 8 9 (fun j => .string (S.cell j))
  left : S.left = R.due - R.writes
theorem StoR.ne {w : World} {g gc : Nat} {S : Sto} {R : RSt} (h : StoR w g gc S R) : g ≠ gc := Row.ne h.r h.c (by decide)
theorem StoR.fr {w w' : World} {L : List Nat} {g gc : Nat} {S : Sto} {R : RSt} (h : StoR w g gc S R) (hf : Fr L w w') (h1 : g ∉ L) (h2 : gc ∉ L) : StoR w' g gc S R := ⟨h.r.fr hf h1, h.c.fr hf h2, h.left⟩
theorem StoR.at0 {w : World} {g gc : Nat} {S : Sto} {R : RSt} (h : StoR w g gc S R) : w.cell? ⟨g, 0, none⟩ = some (.slice (some ⟨gc, 0, none⟩) 8 8) := by rw [Row.cell h.r 0 (by omega)]; rfl
theorem StoR.at1 {w : World} {g gc : Nat} {S : Sto} {R : RSt} (h : StoR w g gc S R) : w.cell? ⟨g, 1, none⟩ = some (.int .i64 R.writes) := by rw [Row.cell h.r 1 (by omega)]; rfl
theorem StoR.at2 {w : World} {g gc : Nat} {S : Sto} {R : RSt} (h : StoR w g gc S R) : w.cell? ⟨g, 2, none⟩ = some (.int .i64 R.due) := by rw [Row.cell h.r 2 (by omega)]; rfl
theorem StoR.at3 {w : World} {g gc : Nat} {S : Sto} {R : RSt} (h : StoR w g gc S R) : w.cell? ⟨g, 3, none⟩ = some (.bool S.done) := by rw [Row.cell h.r 3 (by omega)]; rfl
theorem StoR.at4 {w : World} {g gc : Nat} {S : Sto} {R : RSt} (h : StoR w g gc S R) : w.cell? ⟨g, 4, none⟩ = some (.int .i64 R.user) := by rw [Row.cell h.r 4 (by omega)]; rfl
theorem StoR.at5 {w : World} {g gc : Nat} {S : Sto} {R : RSt} (h : StoR w g gc S R) : w.cell? ⟨g, 5, none⟩ = some (.int .i64 R.tables) := by rw [Row.cell h.r 5 (by omega)]; rfl
def newR : RSt := ⟨0, 0, 0, 0⟩
theorem made9 (w : World) : (Instr.makeSlice 29 (.int .i64 8) (.int .i64 8)).run Tryz.prog w = .ok (.slice (some ⟨w.heap.size, 0, none⟩) 8 8) (w.alloc (.cells (arr 8 fun _ => .string ⟨#[]⟩) 9)) := by
  have := run_make_row' (P := Tryz.prog) 29 9 (.string ⟨#[]⟩) 16 Tryz.underlying29 (by kernel_rfl) rfl .i64 .i64 8 (by omega) (by omega) w
  refine this.trans ?_
  kernel_rfl
set_option maxRecDepth 100000 in
set_option maxHeartbeats 1000000 in
theorem refNew_any (w : World) : Calls Tryz.prog 18 #[] w fun e w' => e = .returned (ptr (w.heap.size + 1)) ∧ StoR w' (w.heap.size + 1) w.heap.size newSto newR ∧ Below w.heap.size w w' := by
  have hm := made9 w
  go_enter Tryz.func18, Tryz.ntmps18
  go_wp2
  go_ret
  refine ⟨rfl, ⟨?_, ?_, rfl⟩, ((Below.refl _ _).alloc (Nat.le_refl _) _).alloc (by simp) _⟩
  · exact Row.lit _ _ _ _ _ _ (by simp) rfl
  · exact Row.alloc (Row.new w 8 9 _ _ rfl) _
set_option maxRecDepth 100000 in
set_option maxHeartbeats 1000000 in
theorem refCell_any (g gc : Nat) (S : Sto) (R : RSt) (i : Int) (w : World) (h : StoR w g gc S R) :
    Calls Tryz.prog 20 #[ptr g, .int .i64 i] w fun e w' => e = .returned (.tuple #[.string (cellM S i).1, .int .i64 (cellM S i).2]) ∧ w' = w := by
  unfold ptr cellM inCell
  by_cases hi : i < 0
  · rw [if_neg (by simp; omega)]
    go_enter Tryz.func20, Tryz.ntmps20
    go_wp2
    go_ret2
    exact ⟨rfl, rfl⟩
  · by_cases h8 : 8 ≤ i
    · rw [if_neg (by simp; omega)]
      go_enter Tryz.func20, Tryz.ntmps20
      go_wp2
      go_ret2
      exact ⟨rfl, rfl⟩
    · rw [if_pos (by simp; omega)]
      obtain ⟨k, rfl⟩ : ∃ k : Nat, i = k := ⟨i.toNat, by omega⟩
      have hk : k < 8 := by omega
      have c := Row.cell h.c k hk
      have a0 := h.at0
      rw [Int.toNat_natCast]
      go_enter Tryz.func20, Tryz.ntmps20
      go_wp2
      go_ret2
      exact ⟨rfl, rfl⟩
end Go.Proofs.YtgalgjmhdbncbabGreat
