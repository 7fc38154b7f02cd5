import Derived.Test.YtgalgjmhdbncbaaQ11
namespace Go.Proofs.Ytgalgjmhdbncbaa
open Go.RowKit
attribute [local go_sem ↓] Go.wp_at_zero Go.wp_at_succ

/-! ### Records -/
theorem recEncBoth (a i : Int) (n b t : ByteArray) (hb : b.size ≤ maxLen) : ∃ (v : ByteArray) (c : Int),
    (∀ w, Calls Try.prog 29 #[.agg #[.int .i64 a, .int .i64 i, .string n, .string b, .string t]] w fun e w' => e = .returned (.tuple #[.string v, .int .i64 c]) ∧ Below w.heap.size w w') ∧
    (∀ w, Calls Try.prog 51 #[.agg #[.int .i64 a, .int .i64 i, .string n, .string b, .string t]] w fun e w' => e = .returned (.tuple #[.string v, .int .i64 c]) ∧ Below w.heap.size w w') := by
  by_cases h : RecOk a i n b t
  · obtain ⟨⟨h1, h2⟩, h3, h4, h5, h6, h7⟩ := h
    obtain ⟨A, rfl⟩ : ∃ A : Nat, a = A := ⟨a.toNat, by omega⟩
    obtain ⟨I, rfl⟩ : ∃ I : Nat, i = I := ⟨i.toNat, by omega⟩
    exact ⟨_, _, fun w => encode_yes A I n b t (by omega) (by omega) (by omega) h5 h6 h7 w, fun w => refEncode_yes A I n b t (by omega) (by omega) (by omega) h5 h6 h7 w⟩
  · exact ⟨_, _, fun w => encode_no a i n b t h hb w, fun w => refEncode_no a i n b t h hb w⟩
theorem recParseBoth (s : ByteArray) (hs : s.size ≤ maxLen) : ∃ (a i : Int) (n b t : ByteArray) (p c : Int),
    (∀ w, Calls Try.prog 30 #[.string s] w fun e w' => e = .returned (.tuple #[.agg #[.int .i64 a, .int .i64 i, .string n, .string b, .string t], .int .i64 p, .int .i64 c]) ∧ Below w.heap.size w w') ∧
    (∀ w, Calls Try.prog 52 #[.string s] w fun e w' => e = .returned (.tuple #[.agg #[.int .i64 a, .int .i64 i, .string n, .string b, .string t], .int .i64 p, .int .i64 c]) ∧ Below w.heap.size w w') := by
  cases h : badAt s with
  | some p =>
    have e : refPV s = .tuple #[recV 0 0 ⟨#[]⟩ ⟨#[]⟩ ⟨#[]⟩, .int .i64 p, .int .i64 7] := by unfold refPV; rw [h]
    have hr := fun w => refParse_any s hs w
    rw [e] at hr
    exact ⟨_, _, _, _, _, _, _, fun w => parse_bad s p hs h w, hr⟩
  | none =>
    have e : refPV s = .tuple #[recV (sf s 3).toNat (valF (sf s) 4 2) (s.extract 6 18) (s.extract 20 (20 + (sf s 19).toNat)) (s.extract (20 + (sf s 19).toNat) (36 + (sf s 19).toNat)), .int .i64 0, .int .i64 0] := by unfold refPV; rw [h]
    have hr := fun w => refParse_any s hs w
    rw [e] at hr
    exact ⟨_, _, _, _, _, _, _, fun w => parse_ok s hs h w, hr⟩
set_option maxRecDepth 100000 in
set_option maxHeartbeats 4000000 in
theorem lrecords_any (a i : Int) (n b t s : ByteArray) (hb : b.size ≤ maxLen) (hs : s.size ≤ maxLen) (w : World) :
    Calls Try.prog 31 #[.agg #[.int .i64 a, .int .i64 i, .string n, .string b, .string t], .string s] w fun e w' => e = .returned (.bool true) ∧ Below w.heap.size w w' := by
  obtain ⟨v, c, c1, c2⟩ := recEncBoth a i n b t hb
  obtain ⟨a', i', n', b', t', p, d, c3, c4⟩ := recParseBoth s hs
  have C1 : Hid _ := c1
  have C2 : Hid _ := c2
  have C3 : Hid _ := c3
  have C4 : Hid _ := c4
  clear c1 c2 c3 c4 hb hs
  go_enter Try.func31, Try.ntmps31
  go_wp2_with fail
  refine (Hid.out C1 _).mono ?_
  rintro e w1 ⟨rfl, b1⟩
  have r1 : w1.heap[w.heap.size]? = some (.cells #[.int .i64 a, .int .i64 i, .string n, .string b, .string t] 41 (0, 0)) := by rw [b1.block _ (by simp)]; exact heap_of_new _ _ _ rfl
  have B1 : Below w.heap.size w w1 := ((Below.refl _ w).alloc (Nat.le_refl _) _).trans (b1.mono (by simp))
  clear b1
  obtain ⟨z0, z1, z2, z3, z4⟩ := cells5 r1
  go_wp2_with fail
  refine (Hid.out C2 _).mono ?_
  rintro e w2 ⟨rfl, b2⟩
  have B2 := B1.trans (b2.mono B1.size)
  clear b2 B1 z0 z1 z2 z3 z4 r1
  have y2 := B2.size
  go_wp2_with fail
  refine (Hid.out C3 _).mono ?_
  rintro e w3 ⟨rfl, b3⟩
  have B3 := B2.trans (b3.mono B2.size)
  have y3 := B3.size
  clear b3 B2
  go_wp2_with fail
  refine (Hid.out C4 _).mono ?_
  rintro e w4 ⟨rfl, b4⟩
  have r4 : w4.heap[w3.heap.size]? = some (.cells #[.int .i64 a', .int .i64 i', .string n', .string b', .string t'] 41 (0, 0)) := by rw [b4.block _ (by simp)]; exact heap_of_new _ _ _ rfl
  have B4 := (B3.alloc y3 (.cells #[.int .i64 a', .int .i64 i', .string n', .string b', .string t'] 41)).trans (b4.mono (by simp; omega))
  have l4 : w3.heap.size < w4.heap.size := by have := b4.size; simp at this; omega
  clear b4 B3
  obtain ⟨z0, z1, z2, z3, z4⟩ := cells5 r4
  clear r4 C1 C2 C3 C4
  go_wp2_with fail
  refine (num_any c _).mono ?_
  rintro e w5 ⟨rfl, hw⟩
  rw [hw]
  go_wp2_with fail
  refine (num_any d _).mono ?_
  rintro e w6 ⟨rfl, hw6⟩
  rw [hw6]
  go_wp2
  go_ret
  exact ⟨rfl, B4.alloc B4.size _⟩
theorem exEncode (N T : ByteArray) (hN : N.size = 12) (hT : T.size = 16) (w : World) : Calls Try.prog 29 #[.agg #[.int .i64 1, .int .i64 0, .string N, .string ⟨#[]⟩, .string T]] w fun e w' => e = .returned (.tuple #[.string (encT 1 0 N ⟨#[]⟩ T), .int .i64 0]) ∧ Below w.heap.size w w' :=
  encode_yes 1 0 N ⟨#[]⟩ T (by omega) (by omega) (by omega) hN (by decide) hT w
theorem exParse (N T : ByteArray) (hN : N.size = 12) (hT : T.size = 16) (w : World) : Calls Try.prog 30 #[.string (encT 1 0 N ⟨#[]⟩ T)] w fun e w' => e = .returned (.tuple #[.agg #[.int .i64 1, .int .i64 0, .string N, .string ⟨#[]⟩, .string T], .int .i64 0, .int .i64 0]) ∧ Below w.heap.size w w' :=
  parse_enc 1 0 N ⟨#[]⟩ T ⟨by omega, by omega, by omega, hN, by decide, hT⟩ w
set_option maxRecDepth 100000 in
set_option maxHeartbeats 4000000 in
theorem records_law (a i : Int) (n b t s : ByteArray) (hb : b.size ≤ maxLen) (hs : s.size ≤ maxLen) (w : World) :
    Calls Try.prog 10 #[recV a i n b t, .string s] w fun e w' => e = .returned (.bool true) ∧ Below w.heap.size w w' := by
  have HB : Hid _ := hb
  have HS : Hid _ := hs
  clear hb hs
  unfold recV
  go_enter Try.func10, Try.ntmps10
  go_wp2_with fail
  refine (exEncode _ _ rfl rfl _).mono ?_
  rintro e w1 ⟨rfl, b1⟩
  have r0 : w1.heap[w.heap.size]? = some (.cells #[.int .i64 a, .int .i64 i, .string n, .string b, .string t] 41 (0, 0)) := by
    rw [b1.block _ (by simp; omega)]
    exact heap_of_old _ _ _ _ (by simp) (heap_of_new _ _ _ rfl)
  have r1 : w1.heap[w.heap.size + 1]? = some (.cells #[.int .i64 1, .int .i64 0, .string ⟨#[49, 50, 51, 52, 53, 54, 55, 56, 57, 48, 49, 50]⟩, .string ⟨#[]⟩, .string ⟨#[49, 50, 51, 52, 53, 54, 55, 56, 57, 48, 49, 50, 51, 52, 53, 54]⟩] 41 (0, 0)) := by
    rw [b1.block _ (by simp)]
    exact heap_of_new _ _ _ (by simp)
  have B1 : Below w.heap.size w w1 := (((Below.refl _ w).alloc (Nat.le_refl _) _).alloc (by simp) _).trans (b1.mono (by simp; omega))
  have y1 := b1.size
  simp at y1
  clear b1
  go_wp2_with fail
  refine (exParse _ _ rfl rfl _).mono ?_
  rintro e w2 ⟨rfl, b2⟩
  have r0' : w2.heap[w.heap.size]? = some (.cells #[.int .i64 a, .int .i64 i, .string n, .string b, .string t] 41 (0, 0)) := by rw [b2.block _ (by omega)]; exact r0
  have r1' : w2.heap[w.heap.size + 1]? = some (.cells #[.int .i64 1, .int .i64 0, .string ⟨#[49, 50, 51, 52, 53, 54, 55, 56, 57, 48, 49, 50]⟩, .string ⟨#[]⟩, .string ⟨#[49, 50, 51, 52, 53, 54, 55, 56, 57, 48, 49, 50, 51, 52, 53, 54]⟩] 41 (0, 0)) := by rw [b2.block _ (by omega)]; exact r1
  have B2 := B1.trans (b2.mono B1.size)
  have y2 := b2.size
  clear b2 B1 r0 r1
  obtain ⟨z0, z1, z2, z3, z4⟩ := cells5 r0'
  have l0 : w.heap.size < w2.heap.size := by omega
  go_wp2_with fail
  refine (lrecords_any a i n b t s HB.out HS.out _).mono ?_
  rintro e w3 ⟨rfl, b3⟩
  have r1 : w3.heap[w.heap.size + 1]? = some (.cells #[.int .i64 1, .int .i64 0, .string ⟨#[49, 50, 51, 52, 53, 54, 55, 56, 57, 48, 49, 50]⟩, .string ⟨#[]⟩, .string ⟨#[49, 50, 51, 52, 53, 54, 55, 56, 57, 48, 49, 50, 51, 52, 53, 54]⟩] 41 (0, 0)) := by
    rw [b3.block _ (by simp; omega)]
    exact heap_of_old _ _ _ _ (by omega) r1'
  have r2 : w3.heap[w2.heap.size]? = some (.cells #[.int .i64 1, .int .i64 0, .string ⟨#[49, 50, 51, 52, 53, 54, 55, 56, 57, 48, 49, 50]⟩, .string ⟨#[]⟩, .string ⟨#[49, 50, 51, 52, 53, 54, 55, 56, 57, 48, 49, 50, 51, 52, 53, 54]⟩] 41 (0, 0)) := by
    rw [b3.block _ (by simp)]
    exact heap_of_new _ _ _ rfl
  have B3 := (B2.alloc B2.size (.cells #[.int .i64 1, .int .i64 0, .string ⟨#[49, 50, 51, 52, 53, 54, 55, 56, 57, 48, 49, 50]⟩, .string ⟨#[]⟩, .string ⟨#[49, 50, 51, 52, 53, 54, 55, 56, 57, 48, 49, 50, 51, 52, 53, 54]⟩] 41)).trans (b3.mono (by have := B2.size; simp; omega))
  clear b3 B2 z0 z1 z2 z3 z4 r0' r1' l0
  obtain ⟨z0, z1, z2, z3, z4⟩ := cells5 r1
  obtain ⟨x0, x1, x2, x3, x4⟩ := cells5 r2
  have zE : ∀ N T : ByteArray, (encT 1 0 N ⟨#[]⟩ T).size = 36 := fun N T => encT_size 1 0 N ⟨#[]⟩ T
  clear r1 r2
  go_wp2
  go_ret
  exact ⟨rfl, B3⟩
end Go.Proofs.Ytgalgjmhdbncbaa
