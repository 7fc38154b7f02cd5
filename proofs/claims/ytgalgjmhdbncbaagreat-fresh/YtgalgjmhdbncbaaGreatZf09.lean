import Derived.Test.YtgalgjmhdbncbaaGreatZf08
import Derived.Deep.QuietTactic
import Derived.BigQuiet
namespace Go.Proofs.YtgalgjmhdbncbaaGreat
open Go.RowKit
attribute [local go_sem ↓] Go.wp_at_zero Go.wp_at_succ
attribute [local go_sem ↓] ldw40 ldw50 ldw60 ldw63 ldw52 stw40 stw50 stw63 stw52 al40 al50 al60 al62 al63 al52 bd50 bd55
attribute [local go_sem] run_ldT40 run_ldT50 run_ldT60 run_ldT63 run_ldT52 ldN_row run_stT40 run_stT50 run_stT63 run_stT52 stN_row stN_z run_al40 run_al50 run_al60 run_al62 run_al63 run_al52 run_bd50 run_bd55
attribute [local go_sem] blk_new blk_at blk_old blk_drew blk_setCell blk_setRow alloc_setRow

def Tab (w : World) (g o : Nat) (bx : Nat → UInt8) : Prop := g < w.heap.size ∧ ∀ i, i < 256 → w.cell? ⟨g, o + i, none⟩ = some (.int .u8 (bx i).toNat)
theorem Tab.keep {w w1 : World} {g o B : Nat} {bx : Nat → UInt8} (h : Tab w g o bx) (hb : Below B w w1) (hg : g < B) : Tab w1 g o bx :=
  ⟨Nat.lt_of_lt_of_le h.1 hb.size, fun i hi => by rw [hb.cell (p := ⟨g, o + i, none⟩) hg]; exact h.2 i hi⟩

set_option maxRecDepth 100000 in
set_option maxHeartbeats 400000 in
theorem subBlock_any (g o : Nat) (bx f : Nat → UInt8) (w : World) (ht : Tab w g o bx) :
    Calls Tryz.prog 138 #[.pointer (some ⟨g, o, none⟩), .agg (arr 16 (by8 f))] w fun e w' =>
      e = .returned (.agg (arr 16 (by8 fun j => bx (f j).toNat))) ∧ Below w.heap.size w w' := by
  go_enter Tryz.func138, Tryz.ntmps138
  go_wp2
  go_loopw [6] (fun i wr => ∃ k : Nat, k ≤ 16 ∧ i = .int .i64 k ∧ Row wr w.heap.size 16 145 (by8 fun j => if j < k then bx (f j).toNat else f j) ∧ Row wr (w.heap.size + 1) 16 145 z8 ∧ Below w.heap.size w wr) (fun i _ => 16 - (intOf i).toNat)
  case atStart =>
    refine ⟨0, by omega, rfl, ?_, Row.new _ _ _ _ _ (by simp), ?_⟩
    · exact (Row.new _ _ _ _ _ rfl).alloc _
    · exact ((Below.refl _ _).alloc (Nat.le_refl _) _).alloc (by simp) _
  case round =>
    obtain ⟨k, hk, rfl, r0, r1, hB⟩ := hrel
    by_cases hlt : k < 16
    · have c0 := r0.cell k hlt
      have f0 := r0.frozen k
      have c1 := (ht.keep hB ht.1).2 (f k).toNat (f k).toNat_lt
      have hb : ((f k).toNat : Int) < 256 := by have := (f k).toNat_lt; omega
      simp only [by8, Nat.lt_irrefl, if_false] at c0
      go_wp2
      go_region
      go_wp2
      go_roundw
      case rel =>
        refine ⟨k + 1, by omega, by go_num, ((r0.set k _).congr ?_).drew, (r1.other (by omega)).drew, (hB.setCell (by simp) _).drew⟩
        intro j hj
        by_cases hjk : j = k
        · subst hjk; simp [by8]
        · simp [by8, hjk, show (j < k + 1) = (j < k) from by apply propext; omega]
      case measure => simp [intOf]; omega
    · have hk16 : k = 16 := by omega
      subst hk16
      have r0 : Row wr w.heap.size 16 145 (by8 fun j => bx (f j).toNat) := r0.congr (fun j hj => by simp [by8, hj])
      have q0 := heap_pos r0
      have q1 := heap_pos r1
      go_wp2
      refine bodyPost_ret (res40 Tryz.results138 _ _ (w.heap.size + 1) _ rfl r1.setRow) rfl ⟨rfl, ?_⟩
      exact Below.setRow hB (by omega) _

set_option maxRecDepth 100000 in
set_option maxHeartbeats 400000 in
theorem subWord_any (g o : Nat) (bx f : Nat → UInt8) (w : World) (ht : Tab w g o bx) :
    Calls Tryz.prog 150 #[.pointer (some ⟨g, o, none⟩), .agg (arr 4 (by8 f))] w fun e w' =>
      e = .returned (.agg (arr 4 (by8 fun j => bx (f j).toNat))) ∧ Below w.heap.size w w' := by
  go_enter Tryz.func150, Tryz.ntmps150
  go_wp2
  go_loopw [6] (fun i wr => ∃ k : Nat, k ≤ 4 ∧ i = .int .i64 k ∧ Row wr w.heap.size 4 220 (by8 fun j => if j < k then bx (f j).toNat else f j) ∧ Row wr (w.heap.size + 1) 4 220 z8 ∧ Below w.heap.size w wr) (fun i _ => 4 - (intOf i).toNat)
  case atStart =>
    refine ⟨0, by omega, rfl, ?_, Row.new _ _ _ _ _ (by simp), ?_⟩
    · exact (Row.new _ _ _ _ _ rfl).alloc _
    · exact ((Below.refl _ _).alloc (Nat.le_refl _) _).alloc (by simp) _
  case round =>
    obtain ⟨k, hk, rfl, r0, r1, hB⟩ := hrel
    by_cases hlt : k < 4
    · have c0 := r0.cell k hlt
      have f0 := r0.frozen k
      have c1 := (ht.keep hB ht.1).2 (f k).toNat (f k).toNat_lt
      have hb : ((f k).toNat : Int) < 256 := by have := (f k).toNat_lt; omega
      simp only [by8, Nat.lt_irrefl, if_false] at c0
      go_wp2
      go_region
      go_wp2
      go_roundw
      case rel =>
        refine ⟨k + 1, by omega, by go_num, ((r0.set k _).congr ?_).drew, (r1.other (by omega)).drew, (hB.setCell (by simp) _).drew⟩
        intro j hj
        by_cases hjk : j = k
        · subst hjk; simp [by8]
        · simp [by8, hjk, show (j < k + 1) = (j < k) from by apply propext; omega]
      case measure => simp [intOf]; omega
    · have hk16 : k = 4 := by omega
      subst hk16
      have r0 : Row wr w.heap.size 4 220 (by8 fun j => bx (f j).toNat) := r0.congr (fun j hj => by simp [by8, hj])
      have q0 := heap_pos r0
      have q1 := heap_pos r1
      go_wp2
      refine bodyPost_ret (res63 Tryz.results150 _ _ (w.heap.size + 1) _ rfl _ r1.setRow) rfl ⟨rfl, ?_⟩
      exact Below.setRow hB (by omega) _

set_option maxRecDepth 100000 in
set_option maxHeartbeats 400000 in
theorem shifted_any (f : Nat → UInt8) (w : World) :
    Calls Tryz.prog 137 #[.agg (arr 16 (by8 f))] w fun e w' => e = .returned (.agg (arr 16 (by8 fun j => f ((j + j % 4 * 4) % 16)))) ∧ Below w.heap.size w w' := by
  go_enter Tryz.func137, Tryz.ntmps137
  go_wp2
  go_loopw [6] (fun i wr => ∃ k : Nat, k ≤ 16 ∧ i = .int .i64 k ∧ Row wr w.heap.size 16 145 (by8 f) ∧ Row wr (w.heap.size + 1) 16 145 z8 ∧ Row wr (w.heap.size + 1 + 1) 16 145 (by8 fun j => if j < k then f ((j + j % 4 * 4) % 16) else 0) ∧ Below w.heap.size w wr) (fun i _ => 16 - (intOf i).toNat)
  case atStart =>
    refine ⟨0, by omega, rfl, ?_, ?_, ?_, ?_⟩
    · exact ((Row.new _ _ _ _ _ rfl).alloc _).alloc _
    · exact (Row.new _ _ _ _ _ (by simp)).alloc _
    · refine Row.congr (V := z8) (Row.new _ _ _ _ _ (by simp)) ?_
      intro j hj
      simp [z8, by8]
    · exact (((Below.refl _ _).alloc (Nat.le_refl _) _).alloc (by simp) _).alloc (by simp; omega) _
  case round =>
    obtain ⟨k, hk, rfl, r0, r1, r2, hB⟩ := hrel
    by_cases hlt : k < 16
    · have c0 : wr.cell? ⟨w.heap.size, (k + k % 4 * 4) % 16, none⟩ = some (.int .u8 (f ((k + k % 4 * 4) % 16)).toNat) := r0.cell _ (by omega)
      have c2 := r2.cell k hlt
      have f2 := r2.frozen k
      go_wp2
      go_roundw
      case rel =>
        refine ⟨k + 1, by omega, by go_num, r0.other (by omega), r1.other (by omega), (r2.set k _).congr ?_, hB.setCell (by simp; omega) _⟩
        intro j hj
        by_cases hjk : j = k
        · subst hjk; simp [by8]
        · simp [by8, hjk, show (j < k + 1) = (j < k) from by apply propext; omega]
      case measure => simp [intOf]; omega
    · have hk16 : k = 16 := by omega
      subst hk16
      have r2 : Row wr (w.heap.size + 1 + 1) 16 145 (by8 fun j => f ((j + j % 4 * 4) % 16)) := r2.congr (fun j hj => by simp [by8, hj])
      have q0 := heap_pos r2
      have q1 := heap_pos r1
      go_wp2
      refine bodyPost_ret (res40 Tryz.results137 _ _ (w.heap.size + 1) _ rfl r1.setRow) rfl ⟨rfl, ?_⟩
      exact Below.setRow hB (by omega) _

theorem below_drewN {B : Nat} {a w : World} (h : Below B a w) (n : Nat) : Below B a (w.drewN n) := h.trans ⟨rfl, rfl, rfl, Nat.le_refl _, fun _ _ => rfl⟩
theorem Row.drewN {w : World} {g n : Nat} {t : TypeId} {V : Nat → Value} (h : Row w g n t V) (q : Nat) : Row (w.drewN q) g n t V := h
theorem dbl_x (a b : UInt8) (w : World) : Calls Tryz.prog 148 #[.int .u8 (bits .xor .u8 a.toNat b.toNat)] w fun e w' => e = .returned (.int .u8 (dbl (a ^^^ b)).toNat) ∧ w' = w := by
  rw [u8_xor_b]; exact dbl_any _ w
def mx (f : Nat → UInt8) (j : Nat) : UInt8 :=
  f j ^^^ (f (j / 4 * 4) ^^^ f (j / 4 * 4 + 1) ^^^ f (j / 4 * 4 + 2) ^^^ f (j / 4 * 4 + 3)) ^^^ dbl (f j ^^^ f (j / 4 * 4 + (j % 4 + 1) % 4))
theorem mx_at (f : Nat → UInt8) (c i : Nat) (hi : i < 4) : mx f (4 * c + i) = f (4 * c + i) ^^^ (f (4 * c) ^^^ f (4 * c + 1) ^^^ f (4 * c + 2) ^^^ f (4 * c + 3)) ^^^ dbl (f (4 * c + i) ^^^ f (4 * c + (i + 1) % 4)) := by
  unfold mx
  rw [show (4 * c + i) / 4 * 4 = 4 * c by omega, show (4 * c + i) % 4 = i by omega]

set_option maxRecDepth 100000 in
set_option maxHeartbeats 800000 in
theorem mixed_any (f : Nat → UInt8) (w : World) :
    Calls Tryz.prog 136 #[.agg (arr 16 (by8 f))] w fun e w' => e = .returned (.agg (arr 16 (by8 (mx f)))) ∧ Below w.heap.size w w' := by
  go_enter Tryz.func136, Tryz.ntmps136
  go_wp2
  go_loopw [4] (fun i wr => ∃ c : Nat, c ≤ 4 ∧ i = .int .i64 (4 * (c : Int)) ∧ Row wr w.heap.size 16 145 (by8 f) ∧ Row wr (w.heap.size + 1) 16 145 z8 ∧ Row wr (w.heap.size + 1 + 1) 16 145 (by8 fun j => if j < 4 * c then mx f j else 0) ∧ Below w.heap.size w wr) (fun i _ => 16 - (intOf i).toNat)
  case atStart =>
    refine ⟨0, by omega, rfl, ?_, ?_, ?_, ?_⟩
    · exact ((Row.new _ _ _ _ _ rfl).alloc _).alloc _
    · exact (Row.new _ _ _ _ _ (by simp)).alloc _
    · refine Row.congr (V := z8) (Row.new _ _ _ _ _ (by simp)) ?_
      intro j hj
      simp [z8, by8]
    · exact (((Below.refl _ _).alloc (Nat.le_refl _) _).alloc (by simp) _).alloc (by simp; omega) _
  case round =>
    obtain ⟨c, hc, rfl, r0, r1, r2, hB⟩ := hrel
    by_cases hlt : c < 4
    · have c0 : wr.cell? ⟨w.heap.size, 4 * c, none⟩ = some (.int .u8 (f (4 * c)).toNat) := r0.cell _ (by omega)
      have c1 : wr.cell? ⟨w.heap.size, 4 * c + 1, none⟩ = some (.int .u8 (f (4 * c + 1)).toNat) := r0.cell _ (by omega)
      have c2 : wr.cell? ⟨w.heap.size, 4 * c + 2, none⟩ = some (.int .u8 (f (4 * c + 2)).toNat) := r0.cell _ (by omega)
      have c3 : wr.cell? ⟨w.heap.size, 4 * c + 3, none⟩ = some (.int .u8 (f (4 * c + 3)).toNat) := r0.cell _ (by omega)
      have hd : decide (4 * (c : Int) < 16) = true := by simp; omega
      go_wp2
      go_quiet (fail)
      go_wp2
      clear c0 c1 c2 c3
      go_loopw [31] (fun i wr => ∃ k : Nat, k ≤ 4 ∧ i = .int .i64 k ∧ Row wr w.heap.size 16 145 (by8 f) ∧ Row wr (w.heap.size + 1) 16 145 z8 ∧ Row wr (w.heap.size + 1 + 1) 16 145 (by8 fun j => if j < 4 * c + k then mx f j else 0) ∧ Below w.heap.size w wr) (fun i _ => 4 - (intOf i).toNat)
      case atStart => exact ⟨0, by omega, rfl, r0, r1, r2, below_drewN hB _⟩
      case round =>
        clear r0 r1 r2 hB
        obtain ⟨k, hk, rfl, r0, r1, r2, hB⟩ := hrel
        by_cases hkl : k < 4
        · have c0 : wr.cell? ⟨w.heap.size, 4 * c + k, none⟩ = some (.int .u8 (f (4 * c + k)).toNat) := r0.cell _ (by omega)
          have c1 : wr.cell? ⟨w.heap.size, 4 * c + (k + 1) % 4, none⟩ = some (.int .u8 (f (4 * c + (k + 1) % 4)).toNat) := r0.cell _ (by omega)
          have c2 := r2.cell (4 * c + k) (by omega)
          have f2 := r2.frozen (4 * c + k)
          go_wp2
          go_quiet (fail)
          go_wp2_with fail
          refine (dbl_x _ _ _).mono ?_
          rintro e wy ⟨rfl, hwy⟩
          have r0 := r0.drewN nq
          have r1 := r1.drewN nq
          have r2 := r2.drewN nq
          have hB := below_drewN hB nq
          rw [← hwy] at r0 r1 r2 hB
          clear c0 c1 c2 f2
          have c2 := r2.cell (4 * c + k) (by omega)
          have f2 := r2.frozen (4 * c + k)
          clear hwy
          go_wp2
          go_roundw
          case rel =>
            refine ⟨k + 1, by omega, by go_num, r0.other (by omega), r1.other (by omega), (r2.set (4 * c + k) _).congr ?_, hB.setCell (by simp; omega) _⟩
            intro j hj
            by_cases hjk : j = 4 * c + k
            · subst hjk
              simp only [if_true, by8]
              rw [if_pos (by omega), mx_at f c k hkl]
              simp only [u8_xor_b]
            · simp only [by8, hjk, if_false]
              by_cases h3 : j < 4 * c + k
              · rw [if_pos h3, if_pos (by omega)]
              · rw [if_neg h3, if_neg (by omega)]
          case measure => simp [intOf]; omega
        · have hk4 : k = 4 := by omega
          subst hk4
          go_wp2
          refine ⟨⟨c + 1, by omega, by go_num, r0, r1, r2, hB⟩, by simp [intOf]; omega⟩
    · have hk16 : c = 4 := by omega
      subst hk16
      have r2 : Row wr (w.heap.size + 1 + 1) 16 145 (by8 (mx f)) := r2.congr (fun j hj => by simp [by8, show j < 4 * 4 by omega])
      have q0 := heap_pos r2
      have q1 := heap_pos r1
      go_wp2
      refine bodyPost_ret (res40 Tryz.results136 _ _ (w.heap.size + 1) _ rfl r1.setRow) rfl ⟨rfl, ?_⟩
      exact Below.setRow hB (by omega) _
end Go.Proofs.YtgalgjmhdbncbaaGreat
