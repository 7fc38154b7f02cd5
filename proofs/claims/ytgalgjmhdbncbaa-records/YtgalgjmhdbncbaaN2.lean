import Derived.Test.YtgalgjmhdbncbaaN1
namespace Go.Proofs.Ytgalgjmhdbncbaa
open Go.RowKit
attribute [local go_sem ↓] Go.wp_at_zero Go.wp_at_succ
attribute [local go_sem ↓] ldw40 stw40 al40
attribute [local go_sem] run_ldT40 ldN_row run_stT40 stN_row stN_z run_al40
attribute [local go_sem] blk_new blk_at blk_old blk_drew blk_setCell blk_setRow alloc_setRow

/-- a block with its last four bytes, as a number, greater by one -/
def nextF (f : Nat → UInt8) : Nat → UInt8 := putF f 12 4 (valF f 12 4 + 1)
theorem Below.of_chg {B g : Nat} {w w' : World} (hc : Chg g w w') (hg : B ≤ g) : Below B w w' := Below.chg (Below.refl _ _) hc hg
set_option maxRecDepth 100000 in
set_option maxHeartbeats 400000 in
theorem next_any (f : Nat → UInt8) (w : World) :
    Calls Try.prog 88 #[.agg (arr 16 (by8 f))] w fun e w' => e = .returned (.agg (arr 16 (by8 (nextF f)))) ∧ Below w.heap.size w w' := by
  have hv := valF_lt f 12 4
  have h4 : (256 : Nat) ^ 4 = 4294967296 := rfl
  rw [h4] at hv
  clear h4
  go_enter Try.func88, Try.ntmps88
  go_wp2_with fail
  refine (nof_any w.heap.size 12 4 4 16 53 f (by omega) (by omega) (by omega) _ ((Row.new _ _ _ _ _ rfl).alloc _)).mono ?_
  rintro e W ⟨rfl, hw⟩
  have r0 : Row W w.heap.size 16 53 (by8 f) := by rw [hw]; exact (Row.new _ _ _ _ _ rfl).alloc _
  have r1 : Row W (w.heap.size + 1) 16 53 z8 := by rw [hw]; exact Row.new _ _ _ _ _ (by simp)
  have bW : Below w.heap.size w W := by rw [hw]; exact ((Below.refl _ _).alloc (Nat.le_refl _) _).alloc (by simp) _
  clear hw
  generalize hV : valF f 12 4 = V at *
  have HV : Hid _ := hV
  clear hV
  have hp := fun w' => put_any w.heap.size 12 4 4 16 53 f (V + 1) (by omega) (by omega) (by omega) w'
  rw [show ((V + 1 : Nat) : Int) = (V : Int) + 1 by omega] at hp
  have HP : Hid _ := hp
  clear hp
  go_wp2_with fail
  refine (HP.out _ r0).mono ?_
  rintro e w2 ⟨rfl, hc, r2⟩
  have r1' := r1.chg hc (by omega)
  have q2 := heap_pos r2
  have q1 := heap_pos r1'
  go_wp2
  refine bodyPost_ret (res40 Try.results88 _ _ (w.heap.size + 1) _ rfl r1'.setRow) rfl ⟨?_, ?_⟩
  · unfold nextF
    rw [HV.out]
  · exact Below.setRow (Below.chg bW hc (by omega)) (by omega) _

theorem num4 (x j : Nat) (hj : j < 4) : numF (x % 4294967296) 4 j = numF x 4 j := by
  unfold numF
  apply UInt8.toNat_inj.1
  rw [UInt8.toNat_ofNat', UInt8.toNat_ofNat']
  rcases (by omega : j = 0 ∨ j = 1 ∨ j = 2 ∨ j = 3) with rfl | rfl | rfl | rfl
  · show x % 4294967296 / 16777216 % 256 = x / 16777216 % 256; omega
  · show x % 4294967296 / 65536 % 256 = x / 65536 % 256; omega
  · show x % 4294967296 / 256 % 256 = x / 256 % 256; omega
  · show x % 4294967296 / 1 % 256 = x / 1 % 256; omega
theorem valF_congr {f g : Nat → UInt8} {a : Nat} : ∀ n, (∀ j, j < n → f (a + j) = g (a + j)) → valF f a n = valF g a n
  | 0, _ => rfl
  | n + 1, h => by simp only [valF]; rw [valF_congr n (fun j hj => h j (by omega)), h n (by omega)]
theorem val_num4 (x a : Nat) (f : Nat → UInt8) (hf : ∀ j, j < 4 → f (a + j) = numF x 4 j) : valF f a 4 = x % 4294967296 := by
  have e0 := hf 0 (by omega)
  have e1 := hf 1 (by omega)
  have e2 := hf 2 (by omega)
  have e3 := hf 3 (by omega)
  simp only [valF]
  rw [e0, e1, e2, e3]
  unfold numF
  simp only [UInt8.toNat_ofNat']
  show ((((0 * 256 + x / 16777216 % 256) * 256 + x / 65536 % 256) * 256 + x / 256 % 256) * 256 + x / 1 % 256) = _
  omega
end Go.Proofs.Ytgalgjmhdbncbaa
