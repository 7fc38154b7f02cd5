import Derived.Test.YtgalgjmhdbncbaaB1
import Derived.Test.YtgalgjmhdbncbaaM2
namespace Go.Proofs.Ytgalgjmhdbncbaa
open Go.RowKit
attribute [local go_sem ↓] Go.wp_at_zero Go.wp_at_succ
attribute [local go_sem ↓] cv_wrap
attribute [local go_sem] run_cv cvRes_row cvRes_z blk_new blk_at blk_old blk_drew

/-- E on texts -/
theorem aes_str_any (n : Nat) (hn : n = 16 ∨ n = 24 ∨ n = 32) (k f : Nat → UInt8) (w : World) :
    Calls Try.prog 17 #[.string (str n k), .string (str 16 f)] w fun e w' => e = .returned (.tuple #[.string (str 16 (aesF (sf (str n k)) f n)), .int .i64 0]) ∧ Below w.heap.size w w' := by
  refine (enc_ok (str n k) (str 16 f) (by rw [str_size]; unfold maxLen; omega) (by rw [str_size]; exact hn) (str_size _ _) w).mono ?_
  rintro e w' ⟨rfl, hb⟩
  refine ⟨?_, hb⟩
  rw [str_size]
  have : str 16 (aesF (sf (str n k)) (sf (str 16 f)) n) = str 16 (aesF (sf (str n k)) f n) := (aes_str _ _ _ _).2 (str_congr (fun j hj => sf_str 16 f j hj))
  rw [this]

theorem kx_congr (bx f g : Nat → UInt8) (n : Nat) (h : ∀ j, j < n → f j = g j) : ∀ t, kxR bx f n t = kxR bx g n t
  | 0 => by
    simp only [kxR]
    congr 1
    funext j
    by_cases hj : j < n
    · rw [if_pos hj, if_pos hj, h j hj]
    · rw [if_neg hj, if_neg hj]
  | t + 1 => by simp only [kxR]; rw [kx_congr bx f g n h t]
theorem aes_key {k k' : Nat → UInt8} {n : Nat} (h : ∀ j, j < n → k j = k' j) (f : Nat → UInt8) : aesF k f n = aesF k' f n := by
  unfold aesF ksF
  rw [kx_congr sbx k k' n h]

def lit32 : ByteArray := ⟨#[142, 162, 183, 202, 81, 103, 69, 191, 234, 252, 73, 144, 75, 73, 96, 137]⟩
theorem known32_any (w : World) : Calls Try.prog 17 #[.string (str 32 fun j => UInt8.ofNat j), .string (str 16 fun j => UInt8.ofNat (17 * j))] w fun e w' => e = .returned (.tuple #[.string ⟨#[142, 162, 183, 202, 81, 103, 69, 191, 234, 252, 73, 144, 75, 73, 96, 137]⟩, .int .i64 0]) ∧ Below w.heap.size w w' := by
  refine (aes_str_any 32 (by omega) _ _ w).mono ?_
  rintro e w' ⟨rfl, hb⟩
  refine ⟨?_, hb⟩
  rw [aes_key (fun j hj => sf_str 32 _ j hj), known32]
  rfl
theorem byte_int (i : Nat) (h : i < 256) : ((UInt8.ofNat i).toNat : Int) = (i : Int) := by
  rw [UInt8.toNat_ofNat']; omega

set_option maxRecDepth 100000 in
set_option maxHeartbeats 1000000 in
theorem kknown_any (w : World) : Calls Try.prog 14 #[] w fun e w' => e = .returned (.bool true) ∧ Below w.heap.size w w' := by
  have hm32 : ∀ w, (Instr.makeSlice 31 (.int .i64 32) (.int .i64 32)).run Try.prog w = .ok (.slice (some ⟨w.heap.size, 0, none⟩) 32 32) (w.alloc (.cells (arr 32 z8) 5)) := fun w => mk8 32 (by omega) w
  have hm16 : ∀ w, (Instr.makeSlice 31 (.int .i64 16) (.int .i64 16)).run Try.prog w = .ok (.slice (some ⟨w.heap.size, 0, none⟩) 16 16) (w.alloc (.cells (arr 16 z8) 5)) := fun w => mk8 16 (by omega) w
  go_enter Try.func14, Try.ntmps14
  go_wp2
  go_loopw [3] (fun i wr => ∃ k : Nat, k ≤ 32 ∧ i = .int .i64 k ∧ Row wr w.heap.size 32 5 (by8 fun j => if j < k then UInt8.ofNat j else 0) ∧ Row wr (w.heap.size + 1) 16 5 (by8 fun j => if 2 * j < k then UInt8.ofNat (17 * j) else 0) ∧ Below w.heap.size w wr) (fun i _ => 32 - (intOf i).toNat)
  case atStart =>
    refine ⟨0, by omega, rfl, ?_, ?_, ?_⟩
    · exact Row.congr (V := z8) ((Row.new _ _ _ _ _ rfl).alloc _) (fun j hj => by simp [z8, by8])
    · exact Row.congr (V := z8) (Row.new _ _ _ _ _ (by simp)) (fun j hj => by simp [z8, by8])
    · exact ((Below.refl _ _).alloc (Nat.le_refl _) _).alloc (by simp) _
  case round =>
    obtain ⟨k, hk, rfl, r0, r1, hB⟩ := hrel
    by_cases hlt : k < 32
    · have c0 := r0.cell k hlt
      have f0 := r0.frozen k
      have c1 := r1.cell (k / 2) (by omega)
      have f1 := r1.frozen (k / 2)
      have HV : Hid ((17 * ((k : Int) / 2)) = (((17 * (k / 2) : Nat)) : Int)) := by show _ = _; omega
      go_wp2
      rw [HV.out]
      refine ⟨⟨k + 1, by omega, by go_num, ((r0.set k _).congr ?_).other (by omega), ((r1.other (by omega)).set (k / 2) _).congr ?_, (hB.setCell (by simp) _).setCell (by simp) _⟩, by simp [intOf]; omega⟩
      · intro j hj
        by_cases hjk : j = k
        · subst hjk
          simp only [by8, if_true]
          rw [if_pos (by omega), byte_int j (by omega)]
        · simp only [by8, hjk, if_false]
          by_cases h3 : j < k
          · rw [if_pos h3, if_pos (by omega)]
          · rw [if_neg h3, if_neg (by omega)]
      · intro j hj
        by_cases hjk : j = k / 2
        · subst hjk
          simp only [by8, if_true]
          rw [if_pos (by omega), byte_int (17 * (k / 2)) (by omega)]
        · simp only [by8, hjk, if_false]
          by_cases h3 : 2 * j < k
          · rw [if_pos h3, if_pos (by omega)]
          · rw [if_neg h3, if_neg (by omega)]
    · have h32 : k = 32 := by omega
      subst h32
      have r0 : Row wr w.heap.size 32 5 (by8 fun j => UInt8.ofNat j) := r0.congr (fun j hj => by simp only [by8]; rw [if_pos hj])
      have r1 : Row wr (w.heap.size + 1) 16 5 (by8 fun j => UInt8.ofNat (17 * j)) := r1.congr (fun j hj => by simp only [by8]; rw [if_pos (by omega)])
      have q0 := heap_pos r0
      have q1 := heap_pos r1
      go_wp2_with (go_at_call 17; refine (known32_any _).mono ?_; rintro e w2 ⟨rfl, hb2⟩)
      go_ret
      exact ⟨rfl, hB.trans (hb2.mono hB.size)⟩

set_option maxHeartbeats 400000 in
theorem keyOf_any (s : ByteArray) (a : Int) (h1 : -9223372036854775808 ≤ a) (h2 : a ≤ 9223372036854775807) (hs : s.size ≤ maxLen) (w : World) :
    Calls Try.prog 15 #[.string s, .int .i64 a] w fun e w' => (∃ n : Nat, (n = 16 ∨ n = 24 ∨ n = 32) ∧ e = .returned (.string (str n (sf s)))) ∧ Below w.heap.size w w' := by
  go_enter Try.func15, Try.ntmps15
  go_wp2_with fail
  refine (pick_any a 3 h1 h2 (by omega) (by omega) _).mono ?_
  rintro e w1 ⟨⟨r, hr, rfl⟩, hw⟩
  subst hw
  have hj := fun w => just_any s (16 + 8 * r) (by omega) hs w
  rw [show ((16 + 8 * r : Nat) : Int) = 16 + 8 * (r : Int) by omega] at hj
  have HJ : Hid _ := hj
  clear hj
  go_wp2_with fail
  refine (HJ.out _).mono ?_
  rintro e w2 ⟨rfl, hb⟩
  go_wp2
  go_ret
  exact ⟨⟨16 + 8 * r, by omega, rfl⟩, hb⟩

theorem eq_bool (a b c d : ByteArray) (h : a = b ↔ c = d) : (a.toList == b.toList) = (c.toList == d.toList) := by
  rw [Bool.eq_iff_iff, beq_iff_eq, beq_iff_eq, ByteArray.toList_eq, ByteArray.toList_eq, ByteArray.toList_eq, ByteArray.toList_eq]
  constructor
  · intro e; rw [h.1 (WideShapes.bytes_inj e)]
  · intro e; rw [h.2 (WideShapes.bytes_inj e)]

set_option maxRecDepth 100000 in
set_option maxHeartbeats 1000000 in
theorem permutes_any (key a b : ByteArray) (n : Int) (hk : key.size ≤ maxLen) (ha : a.size ≤ maxLen) (hb : b.size ≤ maxLen) (h1 : -9223372036854775808 ≤ n) (h2 : n ≤ 9223372036854775807) (w : World) :
    Calls Try.prog 4 #[.string key, .int .i64 n, .string a, .string b] w fun e w' => e = .returned (.bool true) ∧ Below w.heap.size w w' := by
  go_enter Try.func4, Try.ntmps4
  go_wp2_with fail
  refine (kknown_any _).mono ?_
  rintro e w1 ⟨rfl, b1⟩
  go_wp2_with fail
  refine (keyOf_any key n h1 h2 hk _).mono ?_
  rintro e w2 ⟨⟨m, hm, rfl⟩, b2⟩
  have HM : Hid _ := hm
  clear hm
  go_wp2_with fail
  refine (just_any a 16 (by omega) ha _).mono ?_
  rintro e w3 ⟨rfl, b3⟩
  go_wp2_with fail
  refine (just_any b 16 (by omega) hb _).mono ?_
  rintro e w4 ⟨rfl, b4⟩
  go_wp2_with fail
  refine (aes_str_any m HM _ _ _).mono ?_
  rintro e w5 ⟨rfl, b5⟩
  go_wp2_with fail
  refine (aes_str_any m HM _ _ _).mono ?_
  rintro e w6 ⟨rfl, b6⟩
  go_wp2_with fail
  refine (aes_str_any m HM _ _ _).mono ?_
  rintro e w7 ⟨rfl, b7⟩
  have hxy := eq_bool _ _ _ _ (aes_str (sf (str m (sf key))) m (sf a) (sf b))
  have hsz := str_size 16 (aesF (sf (str m (sf key))) (sf a) m)
  go_wp2
  go_ret
  have z1 := b1.size
  have z2 := b2.size
  have z3 := b3.size
  have z4 := b4.size
  have z5 := b5.size
  have z6 := b6.size
  exact ⟨rfl, (((((b1.trans (b2.mono (by omega))).trans (b3.mono (by omega))).trans (b4.mono (by omega))).trans (b5.mono (by omega))).trans (b6.mono (by omega))).trans (b7.mono (by omega))⟩
end Go.Proofs.Ytgalgjmhdbncbaa
