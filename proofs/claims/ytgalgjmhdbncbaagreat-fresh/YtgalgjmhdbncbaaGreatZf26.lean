import Derived.Test.YtgalgjmhdbncbaaGreatZf18
import Derived.Test.YtgalgjmhdbncbaaGreatZf15
import Derived.ChangeKeysEq
namespace Go.Proofs.YtgalgjmhdbncbaaGreat
open Go.RowKit
attribute [local go_sem ↓] Go.wp_at_zero Go.wp_at_succ
attribute [local go_sem ↓] cv_wrap
attribute [local go_sem] run_cv cvRes_row cvRes_z blk_new blk_at blk_old blk_drew

def recA (a i : Int) (n b t : ByteArray) : Array Value := #[.int .i64 a, .int .i64 i, .string n, .string b, .string t]
structure SE (w0 w : World) (n0 g gp N : Nat) (a i : Int) (n b t : ByteArray) (f : Nat → UInt8) : Prop where
  rc : w.heap[n0]? = some (.cells (recA a i n b t) 52 (0, 0))
  pc : w.heap[gp]? = some (.cells (partsV g b.size) 155 (0, 0))
  r : Row w g N 5 (by8 f)
  l1 : n0 < g
  l2 : g < gp
  bl : Below n0 w0 w
theorem SE.chg {w0 w w1 : World} {n0 g gp N : Nat} {a i : Int} {n b t : ByteArray} {f f' : Nat → UInt8} (h : SE w0 w n0 g gp N a i n b t f) (hc : Chg g w w1) (hr : Row w1 g N 5 (by8 f')) : SE w0 w1 n0 g gp N a i n b t f' :=
  ⟨by rw [hc.block n0 (by have := h.l1; omega)]; exact h.rc, by rw [hc.block gp (by have := h.l2; omega)]; exact h.pc, hr, h.l1, h.l2, Below.chg h.bl hc (by have := h.l1; omega)⟩
theorem SE.cell {w0 w : World} {n0 g gp N : Nat} {a i : Int} {n b t : ByteArray} {f : Nat → UInt8} (h : SE w0 w n0 g gp N a i n b t f) :
    w.cell? ⟨n0, 0, none⟩ = some (.int .i64 a) ∧ w.cell? ⟨n0, 1, none⟩ = some (.int .i64 i) ∧ w.cell? ⟨n0, 2, none⟩ = some (.string n) ∧ w.cell? ⟨n0, 3, none⟩ = some (.string b) ∧ w.cell? ⟨n0, 4, none⟩ = some (.string t) ∧
    w.cell? ⟨gp, 0, none⟩ = some (.slice (some ⟨g, 0, none⟩) 3 3) ∧ w.cell? ⟨gp, 1, none⟩ = some (.slice (some ⟨g, 3, none⟩) 1 1) ∧ w.cell? ⟨gp, 2, none⟩ = some (.slice (some ⟨g, 4, none⟩) 2 2) ∧ w.cell? ⟨gp, 3, none⟩ = some (.slice (some ⟨g, 6, none⟩) 12 12) ∧
    w.cell? ⟨gp, 4, none⟩ = some (.slice (some ⟨g, 18, none⟩) 2 2) ∧ w.cell? ⟨gp, 5, none⟩ = some (.slice (some ⟨g, bo b.size, none⟩) b.size b.size) ∧ w.cell? ⟨gp, 6, none⟩ = some (.slice (some ⟨g, 20 + b.size, none⟩) 16 16) := by
  refine ⟨?_, ?_, ?_, ?_, ?_, ?_, ?_, ?_, ?_, ?_, ?_, ?_⟩
  · rw [cell_of_row _ _ 0 _ _ _ h.rc]; rfl
  · rw [cell_of_row _ _ 1 _ _ _ h.rc]; rfl
  · rw [cell_of_row _ _ 2 _ _ _ h.rc]; rfl
  · rw [cell_of_row _ _ 3 _ _ _ h.rc]; rfl
  · rw [cell_of_row _ _ 4 _ _ _ h.rc]; rfl
  · rw [cell_of_row _ _ 0 _ _ _ h.pc]; rfl
  · rw [cell_of_row _ _ 1 _ _ _ h.pc]; rfl
  · rw [cell_of_row _ _ 2 _ _ _ h.pc]; rfl
  · rw [cell_of_row _ _ 3 _ _ _ h.pc]; rfl
  · rw [cell_of_row _ _ 4 _ _ _ h.pc]; rfl
  · rw [cell_of_row _ _ 5 _ _ _ h.pc]; rfl
  · rw [cell_of_row _ _ 6 _ _ _ h.pc]; rfl

def markT : ByteArray := ⟨#[99, 103, 1]⟩
def e1F : Nat → UInt8 := cpF (fun _ => 0) 0 markT
def e2F (A : Nat) : Nat → UInt8 := putF e1F 3 1 A
def e3F (A I : Nat) : Nat → UInt8 := putF (e2F A) 4 2 I
def e4F (A I : Nat) (n : ByteArray) : Nat → UInt8 := cpF (e3F A I) 6 n
def e5F (A I : Nat) (n b : ByteArray) : Nat → UInt8 := putF (e4F A I n) 18 2 b.size
def e6F (A I : Nat) (n b : ByteArray) : Nat → UInt8 := cpF (e5F A I n b) (bo b.size) b
def e7F (A I : Nat) (n b t : ByteArray) : Nat → UInt8 := cpF (e6F A I n b) (20 + b.size) t
theorem enc_bytes (A I : Nat) (n b t : ByteArray) (hn : n.size = 12) (hb : b.size ≤ 200) (ht : t.size = 16) : str (36 + b.size) (e7F A I n b t) = encT A I n b t := by
  unfold encT
  apply str_congr
  intro j hj
  have h6 : e6F A I n b j = if 20 ≤ j ∧ j < 20 + b.size then sf b (j - 20) else e5F A I n b j := by
    unfold e6F cpF bo
    by_cases h0 : b.size = 0
    · rw [if_pos h0, if_neg (by omega), if_neg (by omega)]
    · rw [if_neg h0]
  unfold e7F cpF recF
  rw [ht]
  by_cases h1 : j < 20
  · rw [if_neg (by omega), h6, if_neg (by omega), if_pos h1]
    unfold e5F putF
    rcases (by omega : j = 0 ∨ j = 1 ∨ j = 2 ∨ j = 3 ∨ j = 4 ∨ j = 5 ∨ (6 ≤ j ∧ j < 18) ∨ j = 18 ∨ j = 19) with h | h | h | h | h | h | h | h | h
    · subst h
      rw [if_neg (by omega)]
      unfold e4F cpF
      rw [hn, if_neg (by omega)]
      rfl
    · subst h
      rw [if_neg (by omega)]
      unfold e4F cpF
      rw [hn, if_neg (by omega)]
      rfl
    · subst h
      rw [if_neg (by omega)]
      unfold e4F cpF
      rw [hn, if_neg (by omega)]
      rfl
    · subst h
      rw [if_neg (by omega)]
      unfold e4F cpF
      rw [hn, if_neg (by omega), head3]
      unfold e3F e2F putF numF
      rw [if_neg (by omega), if_pos (by omega)]
      simp
    · subst h
      rw [if_neg (by omega)]
      unfold e4F cpF
      rw [hn, if_neg (by omega), head4]
      unfold e3F putF numF
      rw [if_pos (by omega)]
    · subst h
      rw [if_neg (by omega)]
      unfold e4F cpF
      rw [hn, if_neg (by omega), head5]
      unfold e3F putF numF
      rw [if_pos (by omega)]
      simp
    · rw [if_neg (by omega)]
      unfold e4F cpF
      rw [hn, if_pos (by omega)]
      have e := headN A I b.size n (j - 6) (by omega)
      rw [show 6 + (j - 6) = j by omega] at e
      exact e.symm
    · subst h
      rw [if_pos (by omega), head18]
      unfold numF
      simp
    · subst h
      rw [if_pos (by omega), head19]
      unfold numF
      simp
  · rw [if_neg h1]
    by_cases h2 : j < 20 + b.size
    · rw [if_neg (by omega), h6, if_pos (by omega), if_pos h2]
    · rw [if_pos (by omega), if_neg h2]
      congr 1
      omega

set_option maxRecDepth 100000 in
set_option maxHeartbeats 4000000 in
theorem runOf_any (A I : Nat) (n b t : ByteArray) (hA1 : 1 ≤ A) (hA3 : A ≤ 3) (hI : I ≤ 65535) (hn : n.size = 12) (hb : b.size ≤ 200) (ht : t.size ≤ 16) (w : World) :
    Calls Tryz.prog 118 #[recV A I n b t] w fun e w' => ∃ g, e = .returned (.slice (some ⟨g, 0, none⟩) (36 + b.size) (36 + b.size)) ∧ w.heap.size ≤ g ∧ Row w' g (36 + b.size) 5 (by8 (e7F A I n b t)) ∧ Below w.heap.size w w' := by
  have HN : Hid _ := hn
  have hmk := fun w => mk8 (36 + b.size) (by omega) w
  rw [show ((36 + b.size : Nat) : Int) = 36 + (b.size : Int) by omega] at hmk
  have hN12 : n.size ≤ 12 := by omega
  have hT16 : t.size ≤ 16 := ht
  clear hn ht
  unfold recV
  go_enter Tryz.func118, Tryz.ntmps118
  go_wp2_with fail
  refine (length_any b.size (by omega) _).mono ?_
  rintro e w1' ⟨rfl, hw⟩
  have r1 : w1'.heap[w.heap.size]? = some (.cells (recA A I n b t) 52 (0, 0)) := by rw [hw]; exact heap_of_new _ _ _ rfl
  have B1 : Below w.heap.size w w1' := by rw [hw]; exact (Below.refl _ w).alloc (Nat.le_refl _) _
  have z1 : w.heap.size < w1'.heap.size := by rw [hw]; simp
  have hmk2 := hmk w1'
  clear hw
  go_wp2_with fail
  have hct := fun W => cut_any w1'.heap.size b.size (36 + b.size) (by omega) (Nat.le_refl _) W
  unfold partsV at hct
  refine (hct _).mono ?_
  clear hct
  rintro e w2 ⟨rfl, b2⟩
  have z2 := b2.size
  simp at z2
  have S0 : SE w (w2.alloc (.cells (partsV w1'.heap.size b.size) 155)) w.heap.size w1'.heap.size w2.heap.size (36 + b.size) A I n b t (fun _ => 0) := by
    refine ⟨?_, heap_of_new _ _ _ rfl, ?_, by omega, by omega, ?_⟩
    · refine heap_of_old _ _ _ _ (by omega) ?_
      rw [b2.block _ (by simp; omega)]
      exact heap_of_old _ _ _ _ (by omega) r1
    · exact Row.alloc (Row.keep (Row.new w1' (36 + b.size) 5 z8 _ rfl) b2 (by simp)) _
    · exact ((B1.alloc B1.size _).trans (b2.mono (by have := B1.size; simp; omega))).alloc (by have := B1.size; omega) _
  have HS : Hid _ := S0
  clear S0 b2 r1 B1 hmk hmk2
  go_wp2_with (refine cpAt rfl _ _ rfl w1'.heap.size 0 (36 + b.size) 3 3 5 (fun _ => 0) markT rfl rfl (SE.r HS.out) (by decide) (by show 0 + 3 ≤ _; omega) ?_; intro w3 hc3 r3; have S3 : SE w w3 w.heap.size w1'.heap.size w2.heap.size (36 + b.size) A I n b t e1F := SE.chg HS.out hc3 r3; clear HS hc3 r3; obtain ⟨d0, d1, d2, d3, d4, p0, p1, p2, p3, p4, p5, p6⟩ := S3.cell)
  refine (put_any w1'.heap.size 3 1 1 (36 + b.size) 5 e1F A (by omega) (by omega) (by omega) w3 S3.r).mono ?_
  rintro e w4 ⟨rfl, hc4, r4⟩
  clear d0 d1 d2 d3 d4 p0 p1 p2 p3 p4 p5 p6
  have S4 : SE w w4 w.heap.size w1'.heap.size w2.heap.size (36 + b.size) A I n b t (e2F A) := SE.chg S3 hc4 r4
  clear S3 hc4 r4
  obtain ⟨d0, d1, d2, d3, d4, p0, p1, p2, p3, p4, p5, p6⟩ := S4.cell
  go_wp2_with fail
  refine (put_any w1'.heap.size 4 2 2 (36 + b.size) 5 (e2F A) I (by omega) (by omega) (by omega) w4 S4.r).mono ?_
  rintro e w5 ⟨rfl, hc5, r5⟩
  clear d0 d1 d2 d3 d4 p0 p1 p2 p3 p4 p5 p6
  have S5 : SE w w5 w.heap.size w1'.heap.size w2.heap.size (36 + b.size) A I n b t (e3F A I) := SE.chg S4 hc5 r5
  clear S4 hc5 r5
  obtain ⟨d0, d1, d2, d3, d4, p0, p1, p2, p3, p4, p5, p6⟩ := S5.cell
  go_wp2_with (refine cpAt rfl _ _ rfl w1'.heap.size 6 (36 + b.size) 12 12 5 (e3F A I) n rfl rfl S5.r hN12 (by omega) ?_; intro w6 hc6 r6; clear d0 d1 d2 d3 d4 p0 p1 p2 p3 p4 p5 p6; have S6 : SE w w6 w.heap.size w1'.heap.size w2.heap.size (36 + b.size) A I n b t (e4F A I n) := SE.chg S5 hc6 r6; clear S5 hc6 r6; obtain ⟨d0, d1, d2, d3, d4, p0, p1, p2, p3, p4, p5, p6⟩ := S6.cell)
  refine (put_any w1'.heap.size 18 2 2 (36 + b.size) 5 (e4F A I n) b.size (by omega) (by omega) (by omega) w6 S6.r).mono ?_
  rintro e w7 ⟨rfl, hc7, r7⟩
  clear d0 d1 d2 d3 d4 p0 p1 p2 p3 p4 p5 p6
  have S7 : SE w w7 w.heap.size w1'.heap.size w2.heap.size (36 + b.size) A I n b t (e5F A I n b) := SE.chg S6 hc7 r7
  clear S6 hc7 r7
  obtain ⟨d0, d1, d2, d3, d4, p0, p1, p2, p3, p4, p5, p6⟩ := S7.cell
  have hbo : bo b.size + b.size ≤ 36 + b.size := by unfold bo; split <;> omega
  go_wp2_with (first
    | (refine cpAt rfl _ _ rfl w1'.heap.size (bo b.size) (36 + b.size) b.size b.size 5 (e5F A I n b) b rfl rfl S7.r (Nat.le_refl _) hbo ?_; intro w8 hc8 r8; clear d0 d1 d2 d3 d4 p0 p1 p2 p3 p4 p5 p6; have S8 : SE w w8 w.heap.size w1'.heap.size w2.heap.size (36 + b.size) A I n b t (e6F A I n b) := SE.chg S7 hc8 r8; clear S7 hc8 r8; obtain ⟨d0, d1, d2, d3, d4, p0, p1, p2, p3, p4, p5, p6⟩ := S8.cell)
    | (refine cpAt rfl _ _ rfl w1'.heap.size (20 + b.size) (36 + b.size) 16 16 5 (e6F A I n b) t rfl rfl S8.r hT16 (by omega) ?_; intro w9 hc9 r9; clear d0 d1 d2 d3 d4 p0 p1 p2 p3 p4 p5 p6; have S9 : SE w w9 w.heap.size w1'.heap.size w2.heap.size (36 + b.size) A I n b t (e7F A I n b t) := SE.chg S8 hc9 r9; clear S8 hc9 r9; have q9 := heap_pos S9.r))
  go_ret
  exact ⟨_, rfl, by omega, S9.r, S9.bl⟩
set_option maxRecDepth 100000 in
set_option maxHeartbeats 4000000 in
theorem rencode_yes (A I : Nat) (n b t : ByteArray) (hA1 : 1 ≤ A) (hA3 : A ≤ 3) (hI : I ≤ 65535) (hn : n.size = 12) (hb : b.size ≤ 200) (ht : t.size = 16) (w : World) :
    Calls Tryz.prog 80 #[recV A I n b t] w fun e w' => e = .returned (.tuple #[.string (encT A I n b t), .bool true]) ∧ Below w.heap.size w w' := by
  have HR : Hid (RecOk A I n b t) := ⟨⟨by omega, by omega⟩, by omega, by omega, hn, hb, ht⟩
  have HE : Hid _ := enc_bytes A I n b t hn hb ht
  have hr := fun w => runOf_any A I n b t hA1 hA3 hI hn hb (by omega) w
  unfold recV at hr
  have HU : Hid _ := hr
  clear hn ht hr
  unfold recV
  go_enter Tryz.func80, Tryz.ntmps80
  go_wp2_with fail
  refine (right_yes A I n b t HR.out _).mono ?_
  rintro e w1 ⟨rfl, b1⟩
  have r1 : w1.heap[w.heap.size]? = some (.cells (recA A I n b t) 52 (0, 0)) := by rw [b1.block _ (by simp)]; exact heap_of_new _ _ _ rfl
  have B1 : Below w.heap.size w w1 := ((Below.refl _ w).alloc (Nat.le_refl _) _).trans (b1.mono (by simp))
  clear b1
  have y0 : w1.cell? ⟨w.heap.size, 0, none⟩ = some (.int .i64 A) := by rw [cell_of_row _ _ 0 _ _ _ r1]; rfl
  have y1 : w1.cell? ⟨w.heap.size, 1, none⟩ = some (.int .i64 I) := by rw [cell_of_row _ _ 1 _ _ _ r1]; rfl
  have y2 : w1.cell? ⟨w.heap.size, 2, none⟩ = some (.string n) := by rw [cell_of_row _ _ 2 _ _ _ r1]; rfl
  have y3 : w1.cell? ⟨w.heap.size, 3, none⟩ = some (.string b) := by rw [cell_of_row _ _ 3 _ _ _ r1]; rfl
  have y4 : w1.cell? ⟨w.heap.size, 4, none⟩ = some (.string t) := by rw [cell_of_row _ _ 4 _ _ _ r1]; rfl
  go_wp2_with fail
  refine (HU.out _).mono ?_
  rintro e w2 ⟨g, rfl, hg, R2, b2⟩
  have q2 := heap_pos R2
  have B2 := B1.trans (b2.mono B1.size)
  clear y0 y1 y2 y3 y4
  go_wp2
  go_ret2
  exact ⟨by rw [← HE.out]; rfl, B2⟩
end Go.Proofs.YtgalgjmhdbncbaaGreat
namespace Go.Proofs.YtgalgjmhdbncbaaGreat
open Go.RowKit
attribute [local go_sem ↓] Go.wp_at_zero Go.wp_at_succ

set_option maxRecDepth 100000 in
set_option maxHeartbeats 1000000 in
theorem rencode_no (a i : Int) (n b t : ByteArray) (h : ¬ RecOk a i n b t) (hb : b.size ≤ maxLen) (w : World) :
    Calls Tryz.prog 80 #[recV a i n b t] w fun e w' => e = .returned (.tuple #[.string ⟨#[]⟩, .bool false]) ∧ Below w.heap.size w w' := by
  have HR : Hid _ := h
  have HB : Hid _ := hb
  clear h hb
  unfold recV
  go_enter Tryz.func80, Tryz.ntmps80
  go_wp2_with fail
  refine (right_no a i n b t HR.out HB.out _).mono ?_
  rintro e w1 ⟨rfl, b1⟩
  go_wp2
  go_ret2
  exact ⟨rfl, ((Below.refl _ w).alloc (Nat.le_refl _) _).trans (b1.mono (by simp))⟩
set_option maxRecDepth 100000 in
set_option maxHeartbeats 1000000 in
theorem encode_no (a i : Int) (n b t : ByteArray) (h : ¬ RecOk a i n b t) (hb : b.size ≤ maxLen) (w : World) :
    Calls Tryz.prog 97 #[recV a i n b t] w fun e w' => e = .returned (.tuple #[.string ⟨#[]⟩, .int .i64 1]) ∧ Below w.heap.size w w' := by
  have HR : Hid _ := h
  have HB : Hid _ := hb
  clear h hb
  unfold recV
  go_enter Tryz.func97, Tryz.ntmps97
  go_wp2_with fail
  refine (rencode_no a i n b t HR.out HB.out _).mono ?_
  rintro e w1 ⟨rfl, b1⟩
  go_wp2
  go_ret2
  exact ⟨rfl, ((Below.refl _ w).alloc (Nat.le_refl _) _).trans (b1.mono (by simp))⟩
set_option maxRecDepth 100000 in
set_option maxHeartbeats 1000000 in
theorem encode_yes (A I : Nat) (n b t : ByteArray) (hA1 : 1 ≤ A) (hA3 : A ≤ 3) (hI : I ≤ 65535) (hn : n.size = 12) (hb : b.size ≤ 200) (ht : t.size = 16) (w : World) :
    Calls Tryz.prog 97 #[recV A I n b t] w fun e w' => e = .returned (.tuple #[.string (encT A I n b t), .int .i64 0]) ∧ Below w.heap.size w w' := by
  have HN : Hid _ := hn
  have HT : Hid _ := ht
  clear hn ht
  unfold recV
  go_enter Tryz.func97, Tryz.ntmps97
  go_wp2_with fail
  refine (rencode_yes A I n b t hA1 hA3 hI HN.out hb HT.out _).mono ?_
  rintro e w1 ⟨rfl, b1⟩
  go_wp2
  go_ret2
  exact ⟨rfl, ((Below.refl _ w).alloc (Nat.le_refl _) _).trans (b1.mono (by simp))⟩

end Go.Proofs.YtgalgjmhdbncbaaGreat
namespace Go.Proofs.YtgalgjmhdbncbaaGreat
open Go.RowKit

theorem part_i (f : Nat → UInt8) (w : World) : ∀ i, i < 16 → (part 5 (arr 16 (by8 f)) (i * Tryz.prog.cellsOf 5)).run Tryz.prog w = .ok (by8 f i) w
  | 0, _ => by kernel_rfl
  | 1, _ => by kernel_rfl
  | 2, _ => by kernel_rfl
  | 3, _ => by kernel_rfl
  | 4, _ => by kernel_rfl
  | 5, _ => by kernel_rfl
  | 6, _ => by kernel_rfl
  | 7, _ => by kernel_rfl
  | 8, _ => by kernel_rfl
  | 9, _ => by kernel_rfl
  | 10, _ => by kernel_rfl
  | 11, _ => by kernel_rfl
  | 12, _ => by kernel_rfl
  | 13, _ => by kernel_rfl
  | 14, _ => by kernel_rfl
  | 15, _ => by kernel_rfl
  | n + 16, h => absurd h (by omega)
theorem items_arr (f g : Nat → UInt8) (d : Nat) (w : World) : ∀ is : List Nat, (∀ i, i ∈ is → i < 16) →
    (Op.eqItems (d + 1) 5 (Tryz.prog.cellsOf 5) (arr 16 (by8 f)) (arr 16 (by8 g)) is).run Tryz.prog w = .ok (is.all fun i => f i == g i) w
  | [], _ => by simp [Op.eqItems]
  | i :: is, h => by
    have e := run_equalIn_int (P := Tryz.prog) (w := w) d 5 .u8 .u8 ((f i).toNat : Int) ((g i).toNat : Int) Tryz.underlying5
    have e2 : (((f i).toNat : Int) == ((g i).toNat : Int)) = (f i == g i) := by
      rw [Bool.eq_iff_iff, beq_iff_eq, beq_iff_eq]
      constructor
      · intro h; exact UInt8.toNat_inj.1 (by omega)
      · intro h; rw [h]
    rw [e2] at e
    have ih := items_arr f g d w is (fun k hk => h k (List.mem_cons_of_mem _ hk))
    simp only [Op.eqItems, Sem.run_bind, part_i f w i (h i (List.mem_cons_self)), part_i g w i (h i (List.mem_cons_self)), Result.andThen_ok, by8, e, List.all_cons]
    by_cases hb : f i = g i
    · rw [hb]
      simp only [beq_self_eq_true, Bool.not_true, Bool.false_eq_true, if_false, Bool.true_and]
      exact ih
    · rw [beq_eq_false_iff_ne.2 hb]
      simp
def same16 (f g : Nat → UInt8) : Bool := (List.range 16).all fun i => f i == g i
theorem same16_iff (f g : Nat → UInt8) : same16 f g = true ↔ str 16 f = str 16 g := by
  unfold same16
  rw [List.all_eq_true]
  constructor
  · intro h
    exact str_congr fun j hj => by simpa using h j (by simpa using hj)
  · intro h i hi
    have e := congrArg (fun s => sf s i) h
    have hi' : i < 16 := by simpa using hi
    rw [sf_str _ _ _ hi', sf_str _ _ _ hi'] at e
    simpa using e
theorem run_eq53 (f g : Nat → UInt8) (w : World) : Sem.run Tryz.prog (Op.equalIn 10000 145 (.agg (arr 16 (by8 f))) (.agg (arr 16 (by8 g)))) w = .ok (same16 f g) w := by
  obtain ⟨i, hi⟩ : ∃ i, Tryz.prog.info? 5 = some i := by
    have h := info5
    rw [Option.map_eq_some_iff] at h
    obtain ⟨i, hi, _⟩ := h
    exact ⟨i, hi⟩
  have h := run_equalIn_array (P := Tryz.prog) w 9999 (arr 16 (by8 f)) (arr 16 (by8 g)) Tryz.underlying145 hi
  refine h.trans ?_
  exact items_arr f g 9998 w (List.range 16) (fun i hi => by simpa using hi)
attribute [local go_sem ↓] Go.wp_at_zero Go.wp_at_succ
attribute [local go_sem ↓] ldw40 stw40 al40
attribute [local go_sem] run_ldT40 ldN_row run_stT40 stN_row stN_z run_al40 run_eq53
attribute [local go_sem] blk_new blk_at blk_old blk_drew blk_setCell blk_setRow alloc_setRow

theorem res40c {fn : Func} {p u : Tmp} (h : fn.results = #[.tmp u, .cell p 145]) (tmps : Array Value) (w : World) (g : Nat) (V : Nat → Value) (v : Value)
    (hp : tmps.getD p undef = .pointer (some ⟨g, 0, none⟩)) (hv : tmps.getD u undef = v) (hg : Row w g 16 145 V) : (results fn tmps).run Tryz.prog w = .ok (.tuple #[v, .agg (arr 16 V)]) w := by
  have hp' : tmps[p]?.getD undef = .pointer (some ⟨g, 0, none⟩) := by simpa using hp
  have hv' : tmps[u]?.getD undef = v := by simpa using hv
  have hl := run_loadVar_row (P := Tryz.prog) w g 145 145 _ (0, 0) _ hg Tryz.underlying145 rfl (by rw [arr_size]; exact info40)
  simp [results, h, hp', hv', asAddr, hl]
set_option maxRecDepth 100000 in
set_option maxHeartbeats 1000000 in
theorem mseal_any (g gc : Nat) (key n m p : ByteArray) (hk : KeyLen key.size) (hn : n.size ≤ 40) (hm : m.size ≤ 200) (hp : p.size ≤ 200) (w : World) (hM : Mod w g gc key) :
    Calls Tryz.prog 77 #[.pointer (some ⟨g, 0, none⟩), .string n, .string m, .string p] w fun e w' => e = .returned (.tuple #[.string (maskT key (firstF key n) p), .agg (arr 16 (by8 (tagF key (firstF key n) m (maskT key (firstF key n) p))))]) ∧ Below w.heap.size w w' := by
  have HK : Hid _ := hk
  have hz := maskT_size key (firstF key n) p
  have hlt := hM.lt
  clear hk
  have hf := fun w' hM' => first_any g gc key n (by omega) w' hM'
  generalize firstF key n = J at *
  have HF : Hid _ := hf
  clear hf
  go_enter Tryz.func77, Tryz.ntmps77
  go_wp2_with fail
  refine (HF.out _ (hM.alloc _)).mono ?_
  rintro e w1 ⟨rfl, b1⟩
  have M1 := (hM.alloc (.cells (arr 16 z8) 145)).keep b1
  have R0 : Row w1 w.heap.size 16 145 z8 := Row.keep (Row.new w 16 145 z8 _ rfl) b1 (by simp)
  have B1 : Below w.heap.size w w1 := ((Below.refl _ w).alloc (Nat.le_refl _) (.cells (arr 16 z8) 145)).trans (b1.mono (by simp))
  clear hM b1
  have l0 := R0.lt
  go_wp2_with fail
  refine (crossed_any g gc key p J HK.out (by omega) _ (M1.alloc _)).mono ?_
  rintro e w2 ⟨rfl, b2⟩
  have M2 := (M1.alloc (.cells (arr 16 (by8 J)) 145)).keep b2
  have R2 := (R0.alloc (.cells (arr 16 (by8 J)) 145)).keep b2 (by simp; omega)
  have R3 : Row w2 w1.heap.size 16 145 (by8 J) := Row.keep (Row.new w1 16 145 (by8 J) _ rfl) b2 (by simp)
  have B2 : Below w.heap.size w w2 := (B1.alloc B1.size (.cells (arr 16 (by8 J)) 145)).trans (b2.mono (by have := B1.size; simp; omega))
  clear M1 R0 b2
  have q3 := heap_pos R3
  go_wp2_with fail
  refine (tag_any g gc key m _ J HK.out (by omega) (by omega) _ M2).mono ?_
  rintro e w3 ⟨rfl, b3⟩
  have R4 := R2.keep b3 R2.lt
  have B3 := B2.trans (b3.mono B2.size)
  clear q3
  have q4 := heap_pos R4
  go_wp2
  refine bodyPost_ret (res40c Tryz.results77 _ _ w.heap.size _ _ rfl rfl R4.setRow) rfl ⟨rfl, ?_⟩
  exact Below.setRow B3 (Nat.le_refl _) _
end Go.Proofs.YtgalgjmhdbncbaaGreat
