import Derived.Test.YtgalgjmhdbncbaaB3
import Derived.Test.YtgalgjmhdbncbaaR8
namespace Go.Proofs.Ytgalgjmhdbncbaa
open Go.RowKit
attribute [local go_sem ↓] Go.wp_at_zero Go.wp_at_succ
attribute [local go_sem ↓] cv_wrap
attribute [local go_sem] run_cv cvRes_row cvRes_z blk_new blk_at blk_old blk_drew

theorem known16_any (w : World) : Calls Try.prog 17 #[.string (str 16 fun j => UInt8.ofNat j), .string (str 16 fun j => UInt8.ofNat (17 * j))] w fun e w' => e = .returned (.tuple #[.string ⟨#[105, 196, 224, 216, 106, 123, 4, 48, 216, 205, 183, 128, 112, 180, 197, 90]⟩, .int .i64 0]) ∧ Below w.heap.size w w' := by
  refine (aes_str_any 16 (by omega) _ _ w).mono ?_
  rintro e w' ⟨rfl, hb⟩
  refine ⟨?_, hb⟩
  rw [aes_key (fun j hj => sf_str 16 _ j hj), known16]
  rfl

set_option maxRecDepth 100000 in
set_option maxHeartbeats 1000000 in
theorem lknown_any (w : World) : Calls Try.prog 12 #[] w fun e w' => e = .returned (.bool true) ∧ Below w.heap.size w w' := by
  have hm16 : ∀ w, (Instr.makeSlice 31 (.int .i64 16) (.int .i64 16)).run Try.prog w = .ok (.slice (some ⟨w.heap.size, 0, none⟩) 16 16) (w.alloc (.cells (arr 16 z8) 5)) := fun w => mk8 16 (by omega) w
  go_enter Try.func12, Try.ntmps12
  go_wp2
  go_loopw [3] (fun i wr => ∃ k : Nat, k ≤ 16 ∧ i = .int .i64 k ∧ Row wr w.heap.size 16 5 (by8 fun j => if j < k then UInt8.ofNat j else 0) ∧ Row wr (w.heap.size + 1) 16 5 (by8 fun j => if j < k then UInt8.ofNat (17 * j) else 0) ∧ Below w.heap.size w wr) (fun i _ => 16 - (intOf i).toNat)
  case atStart =>
    refine ⟨0, by omega, rfl, ?_, ?_, ?_⟩
    · exact Row.congr (V := z8) ((Row.new _ _ _ _ _ rfl).alloc _) (fun j hj => by simp [z8, by8])
    · exact Row.congr (V := z8) (Row.new _ _ _ _ _ (by simp)) (fun j hj => by simp [z8, by8])
    · exact ((Below.refl _ _).alloc (Nat.le_refl _) _).alloc (by simp) _
  case round =>
    obtain ⟨k, hk, rfl, r0, r1, hB⟩ := hrel
    by_cases hlt : k < 16
    · have c0 := r0.cell k hlt
      have f0 := r0.frozen k
      have c1 := r1.cell k hlt
      have f1 := r1.frozen k
      have HV : Hid ((17 * (k : Int)) = (((17 * k : Nat)) : Int)) := by show _ = _; omega
      go_wp2
      rw [HV.out]
      refine ⟨⟨k + 1, by omega, by go_num, ((r0.set k _).congr ?_).other (by omega), ((r1.other (by omega)).set k _).congr ?_, (hB.setCell (by simp) _).setCell (by simp) _⟩, by simp [intOf]; omega⟩
      · intro j hj
        by_cases hjk : j = k
        · subst hjk
          simp only [by8, if_true]
          rw [if_pos (by omega), byte_int j (by omega)]
        · simp only [by8, hjk, if_false]
          by_cases h3 : j < k
          · rw [if_pos h3, if_pos (by omega)]
          · rw [if_neg h3, if_neg (by omega)]
      · intro j hj
        by_cases hjk : j = k
        · subst hjk
          simp only [by8, if_true]
          rw [if_pos (by omega), byte_int (17 * j) (by omega)]
        · simp only [by8, hjk, if_false]
          by_cases h3 : j < k
          · rw [if_pos h3, if_pos (by omega)]
          · rw [if_neg h3, if_neg (by omega)]
    · have h16 : k = 16 := by omega
      subst h16
      have r0 : Row wr w.heap.size 16 5 (by8 fun j => UInt8.ofNat j) := r0.congr (fun j hj => by simp only [by8]; rw [if_pos hj])
      have r1 : Row wr (w.heap.size + 1) 16 5 (by8 fun j => UInt8.ofNat (17 * j)) := r1.congr (fun j hj => by simp only [by8]; rw [if_pos hj])
      have q0 := heap_pos r0
      have q1 := heap_pos r1
      go_wp2_with (go_at_call 17; refine (known16_any _).mono ?_; rintro e w2 ⟨rfl, hb2⟩)
      go_ret
      exact ⟨rfl, hB.trans (hb2.mono hB.size)⟩

set_option maxRecDepth 100000 in
set_option maxHeartbeats 1000000 in
theorem lblocks_any (key block h s : ByteArray) (hk : key.size ≤ maxLen) (hs : s.size ≤ maxLen) (w : World) :
    Calls Try.prog 13 #[.string key, .string block, .string h, .string s] w fun e w' => e = .returned (.bool true) ∧ Below w.heap.size w w' := by
  obtain ⟨v, n, c1, c2⟩ := encBoth key block hk
  obtain ⟨x, m, c3, c4⟩ := hashBoth h s hs
  have C1 : Hid _ := c1
  have C2 : Hid _ := c2
  have C3 : Hid _ := c3
  have C4 : Hid _ := c4
  clear c1 c2 c3 c4 hk hs
  go_enter Try.func13, Try.ntmps13
  go_wp2_with fail
  refine (Hid.out C1 _).mono ?_
  rintro e w1 ⟨rfl, b1⟩
  go_wp2_with fail
  refine (Hid.out C2 _).mono ?_
  rintro e w2 ⟨rfl, b2⟩
  go_wp2_with fail
  refine (Hid.out C3 _).mono ?_
  rintro e w3 ⟨rfl, b3⟩
  go_wp2_with fail
  refine (Hid.out C4 _).mono ?_
  rintro e w4 ⟨rfl, b4⟩
  clear C1 C2 C3 C4
  go_wp2_with fail
  refine (num_any n _).mono ?_
  rintro e w5 ⟨rfl, hw5⟩
  subst hw5
  go_wp2_with fail
  refine (num_any m _).mono ?_
  rintro e w6 ⟨rfl, hw6⟩
  subst hw6
  go_wp2
  go_ret
  have z1 := b1.size
  have z2 := b2.size
  have z3 := b3.size
  exact ⟨rfl, ((b1.trans (b2.mono (by omega))).trans (b3.mono (by omega))).trans (b4.mono (by omega))⟩

set_option maxRecDepth 100000 in
set_option maxHeartbeats 1000000 in
theorem blocks_any (key block h s : ByteArray) (hk : key.size ≤ maxLen) (hs : s.size ≤ maxLen) (w : World) :
    Calls Try.prog 3 #[.string key, .string block, .string h, .string s] w fun e w' => e = .returned (.bool true) ∧ Below w.heap.size w w' := by
  go_enter Try.func3, Try.ntmps3
  go_wp2_with fail
  refine (lknown_any _).mono ?_
  rintro e w1 ⟨rfl, b1⟩
  go_wp2_with fail
  refine (lblocks_any key block h s hk hs _).mono ?_
  rintro e w2 ⟨rfl, b2⟩
  go_wp2
  go_ret
  exact ⟨rfl, b1.trans (b2.mono b1.size)⟩
end Go.Proofs.Ytgalgjmhdbncbaa
