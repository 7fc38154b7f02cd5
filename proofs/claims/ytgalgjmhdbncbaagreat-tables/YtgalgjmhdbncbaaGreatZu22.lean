import Derived.Test.YtgalgjmhdbncbaaGreatZu15
import Derived.Test.YtgalgjmhdbncbaaGreatZu03
namespace Go.Proofs.YtgalgjmhdbncbaaGreat
open Go.RowKit
attribute [local go_sem ↓] Go.wp_at_zero Go.wp_at_succ
attribute [local go_sem ↓] cv_wrap
attribute [local go_sem] run_cv cvRes_row cvRes_z blk_new blk_at blk_old blk_drew

def recA (a i : Int) (n b t : ByteArray) : Array Value := #[.int .i64 a, .int .i64 i, .string n, .string b, .string t]
structure SE (w0 w : World) (n0 g gp N : Nat) (a i : Int) (n b t : ByteArray) (f : Nat → UInt8) : Prop where
  rc : w.heap[n0]? = some (.cells (recA a i n b t) 52 (0, 0))
  pc : w.heap[gp]? = some (.cells (partsV g b.size) 155 (0, 0))
  r : Row w g N 5 (by8 f)
  l1 : n0 < g
  l2 : g < gp
  bl : Below n0 w0 w
theorem SE.chg {w0 w w1 : World} {n0 g gp N : Nat} {a i : Int} {n b t : ByteArray} {f f' : Nat → UInt8} (h : SE w0 w n0 g gp N a i n b t f) (hc : Chg g w w1) (hr : Row w1 g N 5 (by8 f')) : SE w0 w1 n0 g gp N a i n b t f' :=
  ⟨by rw [hc.block n0 (by have := h.l1; omega)]; exact h.rc, by rw [hc.block gp (by have := h.l2; omega)]; exact h.pc, hr, h.l1, h.l2, Below.chg h.bl hc (by have := h.l1; omega)⟩
theorem SE.cell {w0 w : World} {n0 g gp N : Nat} {a i : Int} {n b t : ByteArray} {f : Nat → UInt8} (h : SE w0 w n0 g gp N a i n b t f) :
    w.cell? ⟨n0, 0, none⟩ = some (.int .i64 a) ∧ w.cell? ⟨n0, 1, none⟩ = some (.int .i64 i) ∧ w.cell? ⟨n0, 2, none⟩ = some (.string n) ∧ w.cell? ⟨n0, 3, none⟩ = some (.string b) ∧ w.cell? ⟨n0, 4, none⟩ = some (.string t) ∧
    w.cell? ⟨gp, 0, none⟩ = some (.slice (some ⟨g, 0, none⟩) 3 3) ∧ w.cell? ⟨gp, 1, none⟩ = some (.slice (some ⟨g, 3, none⟩) 1 1) ∧ w.cell? ⟨gp, 2, none⟩ = some (.slice (some ⟨g, 4, none⟩) 2 2) ∧ w.cell? ⟨gp, 3, none⟩ = some (.slice (some ⟨g, 6, none⟩) 12 12) ∧
    w.cell? ⟨gp, 4, none⟩ = some (.slice (some ⟨g, 18, none⟩) 2 2) ∧ w.cell? ⟨gp, 5, none⟩ = some (.slice (some ⟨g, bo b.size, none⟩) b.size b.size) ∧ w.cell? ⟨gp, 6, none⟩ = some (.slice (some ⟨g, 20 + b.size, none⟩) 16 16) := by
  refine ⟨?_, ?_, ?_, ?_, ?_, ?_, ?_, ?_, ?_, ?_, ?_, ?_⟩
  · rw [cell_of_row _ _ 0 _ _ _ h.rc]; rfl
  · rw [cell_of_row _ _ 1 _ _ _ h.rc]; rfl
  · rw [cell_of_row _ _ 2 _ _ _ h.rc]; rfl
  · rw [cell_of_row _ _ 3 _ _ _ h.rc]; rfl
  · rw [cell_of_row _ _ 4 _ _ _ h.rc]; rfl
  · rw [cell_of_row _ _ 0 _ _ _ h.pc]; rfl
  · rw [cell_of_row _ _ 1 _ _ _ h.pc]; rfl
  · rw [cell_of_row _ _ 2 _ _ _ h.pc]; rfl
  · rw [cell_of_row _ _ 3 _ _ _ h.pc]; rfl
  · rw [cell_of_row _ _ 4 _ _ _ h.pc]; rfl
  · rw [cell_of_row _ _ 5 _ _ _ h.pc]; rfl
  · rw [cell_of_row _ _ 6 _ _ _ h.pc]; rfl

def markT : ByteArray := ⟨#[99, 103, 1]⟩
def e1F : Nat → UInt8 := cpF (fun _ => 0) 0 markT
def e2F (A : Nat) : Nat → UInt8 := putF e1F 3 1 A
def e3F (A I : Nat) : Nat → UInt8 := putF (e2F A) 4 2 I
def e4F (A I : Nat) (n : ByteArray) : Nat → UInt8 := cpF (e3F A I) 6 n
def e5F (A I : Nat) (n b : ByteArray) : Nat → UInt8 := putF (e4F A I n) 18 2 b.size
def e6F (A I : Nat) (n b : ByteArray) : Nat → UInt8 := cpF (e5F A I n b) (bo b.size) b
def e7F (A I : Nat) (n b t : ByteArray) : Nat → UInt8 := cpF (e6F A I n b) (20 + b.size) t
theorem enc_bytes (A I : Nat) (n b t : ByteArray) (hn : n.size = 12) (hb : b.size ≤ 200) (ht : t.size = 16) : str (36 + b.size) (e7F A I n b t) = encT A I n b t := by
  unfold encT
  apply str_congr
  intro j hj
  have h6 : e6F A I n b j = if 20 ≤ j ∧ j < 20 + b.size then sf b (j - 20) else e5F A I n b j := by
    unfold e6F cpF bo
    by_cases h0 : b.size = 0
    · rw [if_pos h0, if_neg (by omega), if_neg (by omega)]
    · rw [if_neg h0]
  unfold e7F cpF recF
  rw [ht]
  by_cases h1 : j < 20
  · rw [if_neg (by omega), h6, if_neg (by omega), if_pos h1]
    unfold e5F putF
    rcases (by omega : j = 0 ∨ j = 1 ∨ j = 2 ∨ j = 3 ∨ j = 4 ∨ j = 5 ∨ (6 ≤ j ∧ j < 18) ∨ j = 18 ∨ j = 19) with h | h | h | h | h | h | h | h | h
    · subst h
      rw [if_neg (by omega)]
      unfold e4F cpF
      rw [hn, if_neg (by omega)]
      rfl
    · subst h
      rw [if_neg (by omega)]
      unfold e4F cpF
      rw [hn, if_neg (by omega)]
      rfl
    · subst h
      rw [if_neg (by omega)]
      unfold e4F cpF
      rw [hn, if_neg (by omega)]
      rfl
    · subst h
      rw [if_neg (by omega)]
      unfold e4F cpF
      rw [hn, if_neg (by omega), head3]
      unfold e3F e2F putF numF
      rw [if_neg (by omega), if_pos (by omega)]
      simp
    · subst h
      rw [if_neg (by omega)]
      unfold e4F cpF
      rw [hn, if_neg (by omega), head4]
      unfold e3F putF numF
      rw [if_pos (by omega)]
    · subst h
      rw [if_neg (by omega)]
      unfold e4F cpF
      rw [hn, if_neg (by omega), head5]
      unfold e3F putF numF
      rw [if_pos (by omega)]
      simp
    · rw [if_neg (by omega)]
      unfold e4F cpF
      rw [hn, if_pos (by omega)]
      have e := headN A I b.size n (j - 6) (by omega)
      rw [show 6 + (j - 6) = j by omega] at e
      exact e.symm
    · subst h
      rw [if_pos (by omega), head18]
      unfold numF
      simp
    · subst h
      rw [if_pos (by omega), head19]
      unfold numF
      simp
  · rw [if_neg h1]
    by_cases h2 : j < 20 + b.size
    · rw [if_neg (by omega), h6, if_pos (by omega), if_pos h2]
    · rw [if_pos (by omega), if_neg h2]
      congr 1
      omega

set_option maxRecDepth 100000 in
set_option maxHeartbeats 4000000 in
theorem runOf_any (A I : Nat) (n b t : ByteArray) (hA1 : 1 ≤ A) (hA3 : A ≤ 3) (hI : I ≤ 65535) (hn : n.size = 12) (hb : b.size ≤ 200) (ht : t.size ≤ 16) (w : World) :
    Calls Tryz.prog 118 #[recV A I n b t] w fun e w' => ∃ g, e = .returned (.slice (some ⟨g, 0, none⟩) (36 + b.size) (36 + b.size)) ∧ w.heap.size ≤ g ∧ Row w' g (36 + b.size) 5 (by8 (e7F A I n b t)) ∧ Below w.heap.size w w' := by
  have HN : Hid _ := hn
  have hmk := fun w => mk8 (36 + b.size) (by omega) w
  rw [show ((36 + b.size : Nat) : Int) = 36 + (b.size : Int) by omega] at hmk
  have hN12 : n.size ≤ 12 := by omega
  have hT16 : t.size ≤ 16 := ht
  clear hn ht
  unfold recV
  go_enter Tryz.func118, Tryz.ntmps118
  go_wp2_with fail
  refine (length_any b.size (by omega) _).mono ?_
  rintro e w1' ⟨rfl, hw⟩
  have r1 : w1'.heap[w.heap.size]? = some (.cells (recA A I n b t) 52 (0, 0)) := by rw [hw]; exact heap_of_new _ _ _ rfl
  have B1 : Below w.heap.size w w1' := by rw [hw]; exact (Below.refl _ w).alloc (Nat.le_refl _) _
  have z1 : w.heap.size < w1'.heap.size := by rw [hw]; simp
  have hmk2 := hmk w1'
  clear hw
  go_wp2_with fail
  have hct := fun W => cut_any w1'.heap.size b.size (36 + b.size) (by omega) (Nat.le_refl _) W
  unfold partsV at hct
  refine (hct _).mono ?_
  clear hct
  rintro e w2 ⟨rfl, b2⟩
  have z2 := b2.size
  simp at z2
  have S0 : SE w (w2.alloc (.cells (partsV w1'.heap.size b.size) 155)) w.heap.size w1'.heap.size w2.heap.size (36 + b.size) A I n b t (fun _ => 0) := by
    refine ⟨?_, heap_of_new _ _ _ rfl, ?_, by omega, by omega, ?_⟩
    · refine heap_of_old _ _ _ _ (by omega) ?_
      rw [b2.block _ (by simp; omega)]
      exact heap_of_old _ _ _ _ (by omega) r1
    · exact Row.alloc (Row.keep (Row.new w1' (36 + b.size) 5 z8 _ rfl) b2 (by simp)) _
    · exact ((B1.alloc B1.size _).trans (b2.mono (by have := B1.size; simp; omega))).alloc (by have := B1.size; omega) _
  have HS : Hid _ := S0
  clear S0 b2 r1 B1 hmk hmk2
  go_wp2_with (refine cpAt rfl _ _ rfl w1'.heap.size 0 (36 + b.size) 3 3 5 (fun _ => 0) markT rfl rfl (SE.r HS.out) (by decide) (by show 0 + 3 ≤ _; omega) ?_; intro w3 hc3 r3; have S3 : SE w w3 w.heap.size w1'.heap.size w2.heap.size (36 + b.size) A I n b t e1F := SE.chg HS.out hc3 r3; clear HS hc3 r3; obtain ⟨d0, d1, d2, d3, d4, p0, p1, p2, p3, p4, p5, p6⟩ := S3.cell)
  refine (put_any w1'.heap.size 3 1 1 (36 + b.size) 5 e1F A (by omega) (by omega) (by omega) w3 S3.r).mono ?_
  rintro e w4 ⟨rfl, hc4, r4⟩
  clear d0 d1 d2 d3 d4 p0 p1 p2 p3 p4 p5 p6
  have S4 : SE w w4 w.heap.size w1'.heap.size w2.heap.size (36 + b.size) A I n b t (e2F A) := SE.chg S3 hc4 r4
  clear S3 hc4 r4
  obtain ⟨d0, d1, d2, d3, d4, p0, p1, p2, p3, p4, p5, p6⟩ := S4.cell
  go_wp2_with fail
  refine (put_any w1'.heap.size 4 2 2 (36 + b.size) 5 (e2F A) I (by omega) (by omega) (by omega) w4 S4.r).mono ?_
  rintro e w5 ⟨rfl, hc5, r5⟩
  clear d0 d1 d2 d3 d4 p0 p1 p2 p3 p4 p5 p6
  have S5 : SE w w5 w.heap.size w1'.heap.size w2.heap.size (36 + b.size) A I n b t (e3F A I) := SE.chg S4 hc5 r5
  clear S4 hc5 r5
  obtain ⟨d0, d1, d2, d3, d4, p0, p1, p2, p3, p4, p5, p6⟩ := S5.cell
  go_wp2_with (refine cpAt rfl _ _ rfl w1'.heap.size 6 (36 + b.size) 12 12 5 (e3F A I) n rfl rfl S5.r hN12 (by omega) ?_; intro w6 hc6 r6; clear d0 d1 d2 d3 d4 p0 p1 p2 p3 p4 p5 p6; have S6 : SE w w6 w.heap.size w1'.heap.size w2.heap.size (36 + b.size) A I n b t (e4F A I n) := SE.chg S5 hc6 r6; clear S5 hc6 r6; obtain ⟨d0, d1, d2, d3, d4, p0, p1, p2, p3, p4, p5, p6⟩ := S6.cell)
  refine (put_any w1'.heap.size 18 2 2 (36 + b.size) 5 (e4F A I n) b.size (by omega) (by omega) (by omega) w6 S6.r).mono ?_
  rintro e w7 ⟨rfl, hc7, r7⟩
  clear d0 d1 d2 d3 d4 p0 p1 p2 p3 p4 p5 p6
  have S7 : SE w w7 w.heap.size w1'.heap.size w2.heap.size (36 + b.size) A I n b t (e5F A I n b) := SE.chg S6 hc7 r7
  clear S6 hc7 r7
  obtain ⟨d0, d1, d2, d3, d4, p0, p1, p2, p3, p4, p5, p6⟩ := S7.cell
  have hbo : bo b.size + b.size ≤ 36 + b.size := by unfold bo; split <;> omega
  go_wp2_with (first
    | (refine cpAt rfl _ _ rfl w1'.heap.size (bo b.size) (36 + b.size) b.size b.size 5 (e5F A I n b) b rfl rfl S7.r (Nat.le_refl _) hbo ?_; intro w8 hc8 r8; clear d0 d1 d2 d3 d4 p0 p1 p2 p3 p4 p5 p6; have S8 : SE w w8 w.heap.size w1'.heap.size w2.heap.size (36 + b.size) A I n b t (e6F A I n b) := SE.chg S7 hc8 r8; clear S7 hc8 r8; obtain ⟨d0, d1, d2, d3, d4, p0, p1, p2, p3, p4, p5, p6⟩ := S8.cell)
    | (refine cpAt rfl _ _ rfl w1'.heap.size (20 + b.size) (36 + b.size) 16 16 5 (e6F A I n b) t rfl rfl S8.r hT16 (by omega) ?_; intro w9 hc9 r9; clear d0 d1 d2 d3 d4 p0 p1 p2 p3 p4 p5 p6; have S9 : SE w w9 w.heap.size w1'.heap.size w2.heap.size (36 + b.size) A I n b t (e7F A I n b t) := SE.chg S8 hc9 r9; clear S8 hc9 r9; have q9 := heap_pos S9.r))
  go_ret
  exact ⟨_, rfl, by omega, S9.r, S9.bl⟩
set_option maxRecDepth 100000 in
set_option maxHeartbeats 4000000 in
theorem rencode_yes (A I : Nat) (n b t : ByteArray) (hA1 : 1 ≤ A) (hA3 : A ≤ 3) (hI : I ≤ 65535) (hn : n.size = 12) (hb : b.size ≤ 200) (ht : t.size = 16) (w : World) :
    Calls Tryz.prog 80 #[recV A I n b t] w fun e w' => e = .returned (.tuple #[.string (encT A I n b t), .bool true]) ∧ Below w.heap.size w w' := by
  have HR : Hid (RecOk A I n b t) := ⟨⟨by omega, by omega⟩, by omega, by omega, hn, hb, ht⟩
  have HE : Hid _ := enc_bytes A I n b t hn hb ht
  have hr := fun w => runOf_any A I n b t hA1 hA3 hI hn hb (by omega) w
  unfold recV at hr
  have HU : Hid _ := hr
  clear hn ht hr
  unfold recV
  go_enter Tryz.func80, Tryz.ntmps80
  go_wp2_with fail
  refine (right_yes A I n b t HR.out _).mono ?_
  rintro e w1 ⟨rfl, b1⟩
  have r1 : w1.heap[w.heap.size]? = some (.cells (recA A I n b t) 52 (0, 0)) := by rw [b1.block _ (by simp)]; exact heap_of_new _ _ _ rfl
  have B1 : Below w.heap.size w w1 := ((Below.refl _ w).alloc (Nat.le_refl _) _).trans (b1.mono (by simp))
  clear b1
  have y0 : w1.cell? ⟨w.heap.size, 0, none⟩ = some (.int .i64 A) := by rw [cell_of_row _ _ 0 _ _ _ r1]; rfl
  have y1 : w1.cell? ⟨w.heap.size, 1, none⟩ = some (.int .i64 I) := by rw [cell_of_row _ _ 1 _ _ _ r1]; rfl
  have y2 : w1.cell? ⟨w.heap.size, 2, none⟩ = some (.string n) := by rw [cell_of_row _ _ 2 _ _ _ r1]; rfl
  have y3 : w1.cell? ⟨w.heap.size, 3, none⟩ = some (.string b) := by rw [cell_of_row _ _ 3 _ _ _ r1]; rfl
  have y4 : w1.cell? ⟨w.heap.size, 4, none⟩ = some (.string t) := by rw [cell_of_row _ _ 4 _ _ _ r1]; rfl
  go_wp2_with fail
  refine (HU.out _).mono ?_
  rintro e w2 ⟨g, rfl, hg, R2, b2⟩
  have q2 := heap_pos R2
  have B2 := B1.trans (b2.mono B1.size)
  clear y0 y1 y2 y3 y4
  go_wp2
  go_ret2
  exact ⟨by rw [← HE.out]; rfl, B2⟩
end Go.Proofs.YtgalgjmhdbncbaaGreat
namespace Go.Proofs.YtgalgjmhdbncbaaGreat
open Go.RowKit
attribute [local go_sem ↓] Go.wp_at_zero Go.wp_at_succ

set_option maxRecDepth 100000 in
set_option maxHeartbeats 1000000 in
theorem rencode_no (a i : Int) (n b t : ByteArray) (h : ¬ RecOk a i n b t) (hb : b.size ≤ maxLen) (w : World) :
    Calls Tryz.prog 80 #[recV a i n b t] w fun e w' => e = .returned (.tuple #[.string ⟨#[]⟩, .bool false]) ∧ Below w.heap.size w w' := by
  have HR : Hid _ := h
  have HB : Hid _ := hb
  clear h hb
  unfold recV
  go_enter Tryz.func80, Tryz.ntmps80
  go_wp2_with fail
  refine (right_no a i n b t HR.out HB.out _).mono ?_
  rintro e w1 ⟨rfl, b1⟩
  go_wp2
  go_ret2
  exact ⟨rfl, ((Below.refl _ w).alloc (Nat.le_refl _) _).trans (b1.mono (by simp))⟩
set_option maxRecDepth 100000 in
set_option maxHeartbeats 1000000 in
theorem encode_no (a i : Int) (n b t : ByteArray) (h : ¬ RecOk a i n b t) (hb : b.size ≤ maxLen) (w : World) :
    Calls Tryz.prog 97 #[recV a i n b t] w fun e w' => e = .returned (.tuple #[.string ⟨#[]⟩, .int .i64 1]) ∧ Below w.heap.size w w' := by
  have HR : Hid _ := h
  have HB : Hid _ := hb
  clear h hb
  unfold recV
  go_enter Tryz.func97, Tryz.ntmps97
  go_wp2_with fail
  refine (rencode_no a i n b t HR.out HB.out _).mono ?_
  rintro e w1 ⟨rfl, b1⟩
  go_wp2
  go_ret2
  exact ⟨rfl, ((Below.refl _ w).alloc (Nat.le_refl _) _).trans (b1.mono (by simp))⟩
set_option maxRecDepth 100000 in
set_option maxHeartbeats 1000000 in
theorem encode_yes (A I : Nat) (n b t : ByteArray) (hA1 : 1 ≤ A) (hA3 : A ≤ 3) (hI : I ≤ 65535) (hn : n.size = 12) (hb : b.size ≤ 200) (ht : t.size = 16) (w : World) :
    Calls Tryz.prog 97 #[recV A I n b t] w fun e w' => e = .returned (.tuple #[.string (encT A I n b t), .int .i64 0]) ∧ Below w.heap.size w w' := by
  have HN : Hid _ := hn
  have HT : Hid _ := ht
  clear hn ht
  unfold recV
  go_enter Tryz.func97, Tryz.ntmps97
  go_wp2_with fail
  refine (rencode_yes A I n b t hA1 hA3 hI HN.out hb HT.out _).mono ?_
  rintro e w1 ⟨rfl, b1⟩
  go_wp2
  go_ret2
  exact ⟨rfl, ((Below.refl _ w).alloc (Nat.le_refl _) _).trans (b1.mono (by simp))⟩

end Go.Proofs.YtgalgjmhdbncbaaGreat
namespace Go.Proofs.YtgalgjmhdbncbaaGreat
open Go.RowKit

def in8 (f : Nat → UInt8) (j : Nat) : Value := .int .i64 ((f j).toNat : Int)
theorem i64_xor_nat (a b : Nat) (ha : a < 9223372036854775808) (hb : b < 9223372036854775808) : bits .xor .i64 (a : Int) (b : Int) = ((a ^^^ b : Nat) : Int) := by
  have hx : a ^^^ b < 2 ^ 63 := Nat.xor_lt_two_pow (by omega) (by omega)
  show IntKind.i64.wrap ((BitVec.ofInt 64 (a : Int) ^^^ BitVec.ofInt 64 (b : Int)).toNat : Int) = _
  rw [BitVec.toNat_xor, ofInt_u64 a (by omega), ofInt_u64 b (by omega), IntKind.wrap_i64]
  omega
theorem i64_xor_b (a b : UInt8) : bits .xor .i64 (a.toNat : Int) (b.toNat : Int) = ((a ^^^ b).toNat : Int) := by
  have h1 := a.toNat_lt
  have h2 := b.toNat_lt
  rw [i64_xor_nat _ _ (by omega) (by omega), UInt8.toNat_xor]

theorem info3 : (Tryz.prog.info? 3).map (fun i => (i.zero, i.size, i.bytes)) = some (some (.int .i64 0), 1, 8) := by kernel_rfl
def Own (w : World) (base : Nat) (v : Value) (n : Nat) (f : Nat → UInt8) : Prop := w.ownsRow base 3 1 v n (cl n (in8 f))
theorem Own.keep {w w1 : World} {base B n : Nat} {v : Value} {f : Nat → UInt8} (h : Own w base v n f) (hb : Below B w w1) (hB : w.heap.size ≤ B) : Own w1 base v n f := by
  obtain ⟨h1, h2⟩ := h
  refine ⟨h1, ?_⟩
  rcases h2 with h2 | ⟨g, cap, cur, a, b, c, d⟩
  · exact .inl h2
  · have hlt : g < w.heap.size := (Array.getElem?_eq_some_iff.1 c).1
    exact .inr ⟨g, cap, cur, a, b, by rw [hb.block g (by omega)]; exact c, d⟩
theorem Own.alloc {w : World} {base n : Nat} {v : Value} {f : Nat → UInt8} (h : Own w base v n f) (o : Obj) : Own (w.alloc o) base v n f :=
  h.keep ((Below.refl w.heap.size w).alloc (Nat.le_refl _) o) (Nat.le_refl _)
theorem Own.got {w : World} {base n : Nat} {v : Value} {f : Nat → UInt8} (h : Own w base v n f) (hn : 0 < n) :
    ∃ g cap, v = .slice (some ⟨g, 0, none⟩) n cap ∧ base ≤ g ∧ g < w.heap.size ∧ n ≤ cap ∧ (∀ j, j < n → w.cell? ⟨g, j, none⟩ = some (.int .i64 (f j).toNat)) := by
  obtain ⟨h1, h2⟩ := h
  rcases h2 with ⟨_, h2⟩ | ⟨g, cap, cur, rfl, b, c, d, _, _, e⟩
  · omega
  · refine ⟨g, cap, rfl, b, (Array.getElem?_eq_some_iff.1 c).1, d, fun j hj => ?_⟩
    rw [cell_of_row _ _ j _ _ _ c]
    have h3 : (cur.toList.take (n * 1))[j]? = (cl n (in8 f))[j]? := by rw [e]
    rw [List.getElem?_take_of_lt (by omega)] at h3
    rw [← Array.getElem?_toList, h3]
    simp [cl, hj, in8]
theorem Own.nil (w : World) (base : Nat) (f : Nat → UInt8) : Own w base (.slice none 0 0) 0 f := ⟨rfl, .inl ⟨rfl, rfl⟩⟩
theorem Own.congr {w : World} {base n : Nat} {v : Value} {f g : Nat → UInt8} (h : Own w base v n f) (hf : ∀ j, j < n → f j = g j) : Own w base v n g := by
  have : cl n (in8 f) = cl n (in8 g) := List.map_congr_left (fun j hj => by simp only [in8]; rw [hf j (by simpa using hj)])
  unfold Own
  rw [← this]; exact h
theorem cl_snoc (n : Nat) (f : Nat → UInt8) (y : UInt8) : cl n (in8 f) ++ [.int .i64 (y.toNat : Int)] = cl (n + 1) (in8 fun j => if j = n then y else f j) := by
  unfold cl
  rw [List.range_succ, List.map_append]
  congr 1
  · exact List.map_congr_left (fun j hj => by
      have : j < n := by simpa using hj
      simp only [in8]
      rw [if_neg (by omega)])
  · simp [in8]
theorem below_grown {w w' : World} {base : Nat} {row : Option Nat} (hg : w.grownBy w' row) (hB : base ≤ w.heap.size) (hr : ∀ k, row = some k → base ≤ k) : Below base w w' :=
  (Below.refl base w).grown hg hB hr
theorem Own.block {w : World} {base n : Nat} {v : Value} {f : Nat → UInt8} (h : Own w base v n f) : ∀ k, v.ownBlock = some k → base ≤ k := by
  intro k hk
  rcases h.2 with ⟨rfl, _⟩ | ⟨g, cap, cur, rfl, b, _⟩
  · cases hk
  · simp [Value.ownBlock] at hk
    omega
theorem ap1 {ops : Array Oper} {rest : List Oper} {o : Oper} {a : Act} {W : World} {Q : Exit → Act → World → Prop} (hgd : o.guard = none) (s x : Operand)
    (ho : o.op = .call { callee := .builtin .append, args := #[s, x], argTypes := #[213, 213] }) (base n : Nat) (v : Value) (f : Nat → UInt8) (hs : a.eval s = v) (hown : Own W base v n f) (y : UInt8)
    (hx : a.eval x = .slice (some ⟨W.heap.size, 0, none⟩) 1 1) (hn : n ≤ 1000000) (hbase : base ≤ W.heap.size)
    (h : ∀ v' w', Own w' base v' (n + 1) (fun j => if j = n then y else f j) → Below base W w' → wpList Tryz.prog ops Q rest (a.put o.dst v') w') :
    wpList Tryz.prog ops Q (o :: rest) a (W.alloc (.cells #[.int .i64 (y.toNat : Int)] 3)) := by
  obtain ⟨i0, hi, hz0, hz1, hz2⟩ := info_parts info3
  refine wpList_append_own _ hgd s x 213 ho base 3 i0 (.int .i64 0) 1 8 Tryz.underlying213 hi hz0 hz1 hz2 rfl (by decide) v n (cl n (in8 f)) hs (hown.alloc _) ⟨W.heap.size, 0, none⟩ 1 1 [.int .i64 (y.toNat : Int)] hx rfl (cell_one_new _ _ _)
    (fun u hu => by simp at hu; subst hu; rfl) (by unfold maxLen; omega) (by omega) (by simp; omega) ?_
  intro v' w' h1 h2 _
  rw [cl_snoc] at h1
  exact h v' w' h1 (((Below.refl base W).alloc hbase _).trans (below_grown h2 (by simp; omega) hown.block))

def tmS (a b : Nat) : Nat → Nat × Nat × Nat
  | 0 => (0, a, b)
  | i + 1 => (if (tmS a b i).2.2 % 2 = 1 then (tmS a b i).1 ^^^ (tmS a b i).2.1 else (tmS a b i).1,
      if (tmS a b i).2.1 * 2 ≥ 256 then ((tmS a b i).2.1 * 2) ^^^ 283 else (tmS a b i).2.1 * 2, (tmS a b i).2.2 / 2)
theorem x283 : ∀ n : Fin 256, (n.val + 256) ^^^ 283 < 256 := by decide +kernel
theorem tmS_lt (a b : Nat) (ha : a < 256) (hb : b < 256) : ∀ i, (tmS a b i).1 < 256 ∧ (tmS a b i).2.1 < 256 ∧ (tmS a b i).2.2 < 256
  | 0 => ⟨by simp [tmS], ha, hb⟩
  | i + 1 => by
    obtain ⟨h1, h2, h3⟩ := tmS_lt a b ha hb i
    simp only [tmS]
    refine ⟨?_, ?_, by omega⟩
    · split
      · exact Nat.xor_lt_two_pow (n := 8) h1 h2
      · exact h1
    · split
      · rename_i h
        have := x283 ⟨(tmS a b i).2.1 * 2 - 256, by omega⟩
        simp only at this
        rwa [show (tmS a b i).2.1 * 2 - 256 + 256 = (tmS a b i).2.1 * 2 by omega] at this
      · omega
set_option maxRecDepth 100000 in
set_option maxHeartbeats 1000000 in
theorem times_ref (a b : Nat) (ha : a < 256) (hb : b < 256) (w : World) :
    Calls Tryz.prog 144 #[.int .i64 a, .int .i64 b] w fun e w' => e = .returned (.int .i64 (tmS a b 8).1) ∧ w' = w := by
  go_enter Tryz.func144, Tryz.ntmps144
  go_wp2
  go_loop [0, 1, 5, 6] (fun x y p i => ∃ k : Nat, k ≤ 8 ∧ i = .int .i64 k ∧ p = .int .i64 (tmS a b k).1 ∧ x = .int .i64 (tmS a b k).2.1 ∧ y = .int .i64 (tmS a b k).2.2) (fun _ _ _ i => 8 - (intOf i).toNat)
  case atStart => exact ⟨0, by omega, rfl, rfl, rfl, rfl⟩
  case round =>
    obtain ⟨k, hk, rfl, rfl, rfl, rfl⟩ := hrel
    by_cases hlt : k < 8
    · obtain ⟨h1, h2, h3⟩ := tmS_lt a b ha hb k
      have e : tmS a b (k + 1) = (if (tmS a b k).2.2 % 2 = 1 then (tmS a b k).1 ^^^ (tmS a b k).2.1 else (tmS a b k).1,
        if (tmS a b k).2.1 * 2 ≥ 256 then ((tmS a b k).2.1 * 2) ^^^ 283 else (tmS a b k).2.1 * 2, (tmS a b k).2.2 / 2) := rfl
      have HE : Hid _ := e
      clear e
      generalize (tmS a b k).1 = p at *
      generalize (tmS a b k).2.1 = x at *
      generalize (tmS a b k).2.2 = y at *
      have X1 : Hid (bits .xor .i64 (p : Int) (x : Int) = ((p ^^^ x : Nat) : Int)) := i64_xor_nat p x (by omega) (by omega)
      have X2 : Hid (bits .xor .i64 ((x : Int) * 2) 283 = ((x * 2 ^^^ 283 : Nat) : Int)) := by
        have := i64_xor_nat (x * 2) 283 (by omega) (by omega)
        rw [show ((x * 2 : Nat) : Int) = (x : Int) * 2 by omega] at this
        exact this
      by_cases c1 : y % 2 = 1
      · have d1 : ((y : Int) % 2 == 1) = true := beq_iff_eq.2 (by omega)
        by_cases c2 : x * 2 ≥ 256
        · have d2 : (256 : Int) ≤ (x : Int) * 2 := by omega
          have H1 : Hid _ := c1
          have H2 : Hid _ := c2
          clear c1 c2
          go_wp2
          go_round
          case rel => exact ⟨k + 1, by omega, by go_num, by rw [HE.out, if_pos H1.out, X1.out], by rw [HE.out, if_pos H2.out, X2.out], by rw [HE.out]; go_num⟩
          case measure => simp [intOf]; omega
        · have d2 : (x : Int) * 2 < 256 := by omega
          have H1 : Hid _ := c1
          have H2 : Hid _ := c2
          clear c1 c2
          go_wp2
          go_round
          case rel => exact ⟨k + 1, by omega, by go_num, by rw [HE.out, if_pos H1.out, X1.out], by rw [HE.out, if_neg H2.out]; go_num, by rw [HE.out]; go_num⟩
          case measure => simp [intOf]; omega
      · have d1 : ((y : Int) % 2 == 1) = false := beq_eq_false_iff_ne.2 (by omega)
        by_cases c2 : x * 2 ≥ 256
        · have d2 : (256 : Int) ≤ (x : Int) * 2 := by omega
          have H1 : Hid _ := c1
          have H2 : Hid _ := c2
          clear c1 c2
          go_wp2
          go_round
          case rel => exact ⟨k + 1, by omega, by go_num, by rw [HE.out, if_neg H1.out], by rw [HE.out, if_pos H2.out, X2.out], by rw [HE.out]; go_num⟩
          case measure => simp [intOf]; omega
        · have d2 : (x : Int) * 2 < 256 := by omega
          have H1 : Hid _ := c1
          have H2 : Hid _ := c2
          clear c1 c2
          go_wp2
          go_round
          case rel => exact ⟨k + 1, by omega, by go_num, by rw [HE.out, if_neg H1.out], by rw [HE.out, if_neg H2.out]; go_num, by rw [HE.out]; go_num⟩
          case measure => simp [intOf]; omega
    · have h8 : k = 8 := by omega
      subst h8
      go_wp2
      go_ret
      exact ⟨rfl, rfl⟩
end Go.Proofs.YtgalgjmhdbncbaaGreat
