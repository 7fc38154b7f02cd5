import Derived.Test.YtgalgjmhdbncbaaA2
namespace Go.Proofs.Ytgalgjmhdbncbaa
open Go.RowKit

/-- k bytes as a number, the first the highest -/
def pk (f : Nat → UInt8) : Nat → BitVec 64
  | 0 => 0
  | k + 1 => (pk f k <<< 8) ||| (f k).toBitVec.setWidth 64

theorem up8_bv (a : BitVec 64) : IntKind.u64.wrap ((a.toNat : Int) * 256) = ((a <<< 8).toNat : Int) := by
  rw [IntKind.wrap_u64, BitVec.toNat_shiftLeft, Nat.shiftLeft_eq]; rfl
theorem byte_bv (b : UInt8) : ((b.toNat : Nat) : Int) = ((b.toBitVec.setWidth 64).toNat : Int) := by
  simp
theorem wrap_byte (b : UInt8) : IntKind.u64.wrap (b.toNat : Int) = ((b.toNat : Nat) : Int) := by
  have := b.toNat_lt
  rw [IntKind.wrap_u64]; omega
theorem pk_step (x : BitVec 64) (b : UInt8) : bits .or .u64 (IntKind.u64.wrap ((x.toNat : Int) * 256)) (IntKind.u64.wrap (b.toNat : Int)) = (((x <<< 8) ||| b.toBitVec.setWidth 64).toNat : Int) := by
  rw [wrap_byte, up8_bv, byte_bv b, u64_or_bv]
def pair (a b : BitVec 64) : Array Value := #[.int .u64 a.toNat, .int .u64 b.toNat]

set_option maxHeartbeats 400000 in
theorem polyOf_any (f : Nat → UInt8) (w : World) :
    Calls Try.prog 83 #[.agg (arr 16 (by8 f))] w fun e w' =>
      e = .returned (.agg #[.int .u64 (pk f 8).toNat, .int .u64 (pk (fun j => f (8 + j)) 8).toNat]) ∧ Below w.heap.size w w' := by
  go_enter Try.func83, Try.ntmps83
  go_wp2
  go_loopw [5] (fun i wr => ∃ k : Nat, k ≤ 8 ∧ i = .int .i64 k ∧ Row wr w.heap.size 16 53 (by8 f) ∧
     wr.heap[w.heap.size + 1 + 1]? = some (.cells #[.int .u64 (pk f k).toNat, .int .u64 (pk (fun j => f (8 + j)) k).toNat] 111 (0, 0)) ∧
     wr.heap[w.heap.size + 1]? = some (.cells #[.int .u64 0, .int .u64 0] 111 (0, 0)) ∧ Below w.heap.size w wr) (fun i _ => 8 - (intOf i).toNat)
  case atStart =>
    refine ⟨0, by omega, rfl, ?_, heap_of_new _ _ _ (by simp), heap_of_old _ _ _ _ (by simp) (heap_of_new _ _ _ (by simp)), ?_⟩
    · exact ((Row.new _ _ _ _ _ rfl).alloc _).alloc _
    · exact ((((Below.refl _ _).alloc (Nat.le_refl _) _).alloc (by simp) _).alloc (by simp; omega) _)
  case round =>
    obtain ⟨k, hk, rfl, r0, r1, r2, hB⟩ := hrel
    by_cases hlt : k < 8
    · have c0 : wr.cell? ⟨w.heap.size, k, none⟩ = some (.int .u8 (f k).toNat) := r0.cell k (by omega)
      have c1 : wr.cell? ⟨w.heap.size, 8 + k, none⟩ = some (.int .u8 (f (8 + k)).toNat) := r0.cell (8 + k) (by omega)
      have c2 : wr.cell? ⟨w.heap.size + 1 + 1, 0, none⟩ = some (.int .u64 (pk f k).toNat) := by rw [cell_of_row _ _ 0 _ _ _ r1]; rfl
      have c3 : wr.cell? ⟨w.heap.size + 1 + 1, 1, none⟩ = some (.int .u64 (pk (fun j => f (8 + j)) k).toNat) := by rw [cell_of_row _ _ 1 _ _ _ r1]; rfl
      have f0 : ∀ j, wr.frozen? ⟨w.heap.size + 1 + 1, j, none⟩ = false := fun j => frozen_of_row _ _ j _ _ r1
      go_wp2
      go_region
      go_wp2
      go_region
      go_wp2
      go_roundw
      case rel =>
        rw [pk_step, pk_step]
        refine ⟨k + 1, by omega, by go_num, (((r0.other (by omega)).other (by omega)).drew).drew, heap_two _ _ _ _ _ _ _ r1, ?_, (((hB.setCell (by simp; omega) _).setCell (by simp; omega) _).drew).drew⟩
        rw [heap_drew, heap_drew, heap_skip _ _ _ _ _ (by omega), heap_skip _ _ _ _ _ (by omega)]; exact r2
      case measure => simp [intOf]; omega
    · have hk8 : k = 8 := by omega
      subst hk8
      have c2 : wr.cell? ⟨w.heap.size + 1 + 1, 0, none⟩ = some (.int .u64 (pk f 8).toNat) := by rw [cell_of_row _ _ 0 _ _ _ r1]; rfl
      have c3 : wr.cell? ⟨w.heap.size + 1 + 1, 1, none⟩ = some (.int .u64 (pk (fun j => f (8 + j)) 8).toNat) := by rw [cell_of_row _ _ 1 _ _ _ r1]; rfl
      have c4 : wr.cell? ⟨w.heap.size + 1, 0, none⟩ = some (.int .u64 0) := by rw [cell_of_row _ _ 0 _ _ _ r2]; rfl
      have c5 : wr.cell? ⟨w.heap.size + 1, 1, none⟩ = some (.int .u64 0) := by rw [cell_of_row _ _ 1 _ _ _ r2]; rfl
      have f0 : ∀ j, wr.frozen? ⟨w.heap.size + 1, j, none⟩ = false := fun j => frozen_of_row _ _ j _ _ r2
      generalize hx : pk f 8 = x at *
      generalize hy : pk (fun j => f (8 + j)) 8 = y at *
      have HX : Hid _ := hx
      have HY : Hid _ := hy
      clear hx hy
      go_wp2
      refine bodyPost_ret (v := .agg #[.int .u64 x.toNat, .int .u64 y.toNat]) (results_cell_row Try.results83 _ _ (w.heap.size + 1) 111 _ (0, 0) _ rfl (heap_two _ _ _ _ _ _ _ r2) Try.underlying111 rfl (by kernel_rfl)) rfl ⟨by rw [HX.out, HY.out], ?_⟩
      exact (hB.setCell (by simp) _).setCell (by simp) _

def upk (a b : BitVec 64) (j : Nat) : UInt8 := if j < 8 then ⟨(a >>> (8 * (7 - j))).setWidth 8⟩ else ⟨(b >>> (8 * (15 - j))).setWidth 8⟩
theorem shr8 (a : BitVec 64) (k : Nat) : ((a >>> (8 * k)).toNat : Int) / (256 : Int) = ((a >>> (8 * (k + 1))).toNat : Int) := by
  rw [show 8 * (k + 1) = 8 * k + 8 by omega, BitVec.shiftRight_add, BitVec.toNat_ushiftRight (a >>> (8 * k)), Nat.shiftRight_eq_div_pow]; rfl
theorem low8 (a : BitVec 64) : ((a.toNat : Int) % (256 : Int)) = (((⟨a.setWidth 8⟩ : UInt8).toNat : Nat) : Int) := by
  show _ = (((a.setWidth 8).toNat : Nat) : Int)
  rw [BitVec.toNat_setWidth]; rfl

set_option maxHeartbeats 400000 in
theorem pblock_any (a b : BitVec 64) (w : World) :
    Calls Try.prog 85 #[.agg #[.int .u64 a.toNat, .int .u64 b.toNat]] w fun e w' =>
      e = .returned (.agg (arr 16 (by8 (upk a b)))) ∧ Below w.heap.size w w' := by
  go_enter Try.func85, Try.ntmps85
  go_wp2
  go_loopw [4] (fun i wr => ∃ k : Nat, k ≤ 8 ∧ i = .int .i64 (7 - (k : Int)) ∧ Row wr (w.heap.size + 1 + 1) 16 53 (by8 fun j => if (8 - k ≤ j ∧ j < 8) ∨ 16 - k ≤ j then upk a b j else 0) ∧ Row wr (w.heap.size + 1) 16 53 z8 ∧
     wr.heap[w.heap.size]? = some (.cells #[.int .u64 (a >>> (8 * k)).toNat, .int .u64 (b >>> (8 * k)).toNat] 111 (0, 0)) ∧ Below w.heap.size w wr) (fun i _ => (intOf i + 1).toNat)
  case atStart =>
    refine ⟨0, by omega, rfl, ?_, ?_, ?_, ?_⟩
    · refine Row.congr (V := z8) ?_ ?_
      · exact Row.lit _ _ _ z8 _ _ (by simp) rfl
      intro j hj
      simp only [z8, by8]
      rw [if_neg (by omega)]
    · have h := Row.new (w.alloc (Obj.cells #[.int .u64 a.toNat, .int .u64 b.toNat] 111)) 16 53 z8 (w.heap.size + 1) (by simp)
      exact h.alloc _
    · exact heap_of_old _ _ _ _ (by simp; omega) (heap_of_old _ _ _ _ (by simp) (heap_of_new _ _ _ rfl))
    · exact ((((Below.refl _ _).alloc (Nat.le_refl _) _).alloc (by simp) _).alloc (by simp; omega) _)
  case round =>
    obtain ⟨k, hk, rfl, r0, r1, r2, hB⟩ := hrel
    by_cases hlt : k < 8
    · have c0 := r0.cell (7 - k) (by omega)
      have c1 := r0.cell (8 + (7 - k)) (by omega)
      have c2 : wr.cell? ⟨w.heap.size, 0, none⟩ = some (.int .u64 (a >>> (8 * k)).toNat) := by rw [cell_of_row _ _ 0 _ _ _ r2]; rfl
      have c3 : wr.cell? ⟨w.heap.size, 1, none⟩ = some (.int .u64 (b >>> (8 * k)).toNat) := by rw [cell_of_row _ _ 1 _ _ _ r2]; rfl
      have f0 : ∀ j, wr.frozen? ⟨w.heap.size, j, none⟩ = false := fun j => frozen_of_row _ _ j _ _ r2
      have f1 : ∀ j, wr.frozen? ⟨w.heap.size + 1 + 1, j, none⟩ = false := fun j => r0.frozen j
      have ea := shr8 a k
      have eb := shr8 b k
      have HA : Hid _ := ea
      have HB : Hid _ := eb
      have la : Hid _ := low8 (a >>> (8 * k))
      have lb : Hid _ := low8 (b >>> (8 * k))
      have ua : Hid (upk a b (7 - k) = ⟨(a >>> (8 * k)).setWidth 8⟩) := by
        unfold upk Hid; rw [if_pos (by omega), show 7 - (7 - k) = k by omega]
      have ub : Hid (upk a b (8 + (7 - k)) = ⟨(b >>> (8 * k)).setWidth 8⟩) := by
        unfold upk Hid; rw [if_neg (by omega), show 15 - (8 + (7 - k)) = k by omega]
      clear ea eb
      generalize hA : a >>> (8 * k) = A at *
      generalize hBb : b >>> (8 * k) = Bb at *
      clear hA hBb
      go_wp2
      go_region
      go_wp2
      go_roundw
      case rel =>
        rw [HA.out, HB.out, la.out, lb.out]
        refine ⟨k + 1, by omega, by go_num, (((((r0.set (7 - k) _).set (8 + (7 - k)) _).congr ?_).other (by omega)).other (by omega)).drew, ?_, ?_, ?_⟩
        · intro j hj
          by_cases h1 : j = 8 + (7 - k)
          · subst h1
            simp only [by8, if_true]
            rw [if_pos (by omega), ub.out]
          · by_cases h2 : j = 7 - k
            · subst h2
              simp only [by8, if_true]
              rw [if_neg (by omega), if_pos (by omega), ua.out]
            · simp only [by8, h1, h2, if_false]
              by_cases h3 : (8 - k ≤ j ∧ j < 8) ∨ 16 - k ≤ j
              · rw [if_pos h3, if_pos (by omega)]
              · rw [if_neg h3, if_neg (by omega)]
        · exact ((((r1.other (by omega)).other (by omega)).other (by omega)).other (by omega)).drew
        · rw [heap_drew]
          refine heap_two _ _ (.int .u64 A.toNat) (.int .u64 Bb.toNat) _ _ _ ?_
          rw [heap_skip _ _ _ _ _ (by omega), heap_skip _ _ _ _ _ (by omega)]; exact r2
        · exact ((((hB.setCell (by simp; omega) _).setCell (by simp; omega) _).setCell (by simp) _).setCell (by simp) _).drew
      case measure => simp [intOf]; omega
    · have hk8 : k = 8 := by omega
      subst hk8
      have r0 : Row wr (w.heap.size + 1 + 1) 16 53 (by8 (upk a b)) := r0.congr (fun j hj => by simp only [by8]; rw [if_pos (by omega)])
      go_wp2_with (first | (refine ld40 rfl _ rfl _ rfl _ r0 ?_) | (refine st40 rfl _ _ rfl _ _ rfl rfl _ r1 ?_))
      refine bodyPost_ret (res40 Try.results85 _ _ (w.heap.size + 1) _ rfl r1.setRow) rfl ⟨rfl, ?_⟩
      exact Below.setRow hB (by omega) _
end Go.Proofs.Ytgalgjmhdbncbaa
