import Derived.Test.YtgalgjmhdbncbaaQ7
namespace Go.Proofs.Ytgalgjmhdbncbaa
open Go.RowKit
attribute [local go_sem ↓] Go.wp_at_zero Go.wp_at_succ

theorem new41 (w : World) (v0 v1 v2 v3 v4 : Value) : (w.alloc (.cells #[v0, v1, v2, v3, v4] 41)).heap[w.heap.size]? = some (.cells #[v0, v1, v2, v3, v4] 41 (0, 0)) := heap_of_new _ _ _ rfl
theorem cells5 {w : World} {g : Nat} {v0 v1 v2 v3 v4 : Value} (h : w.heap[g]? = some (.cells #[v0, v1, v2, v3, v4] 41 (0, 0))) : w.cell? ⟨g, 0, none⟩ = some v0 ∧ w.cell? ⟨g, 1, none⟩ = some v1 ∧ w.cell? ⟨g, 2, none⟩ = some v2 ∧ w.cell? ⟨g, 3, none⟩ = some v3 ∧ w.cell? ⟨g, 4, none⟩ = some v4 := by
  refine ⟨?_, ?_, ?_, ?_, ?_⟩
  · rw [cell_of_row _ _ 0 _ _ _ h]; rfl
  · rw [cell_of_row _ _ 1 _ _ _ h]; rfl
  · rw [cell_of_row _ _ 2 _ _ _ h]; rfl
  · rw [cell_of_row _ _ 3 _ _ _ h]; rfl
  · rw [cell_of_row _ _ 4 _ _ _ h]; rfl
set_option maxRecDepth 100000 in
set_option maxHeartbeats 1000000 in
theorem cparse_mid (s : ByteArray) (a i : Int) (n b t : ByteArray) (p : Int) (ok : Bool)
    (hP : ∀ w, Calls Try.prog 50 #[.string s] w fun e w' => e = .returned (.tuple #[.agg #[.int .i64 a, .int .i64 i, .string n, .string b, .string t], .int .i64 p, .bool ok]) ∧ Below w.heap.size w w') (w : World) :
    Calls Try.prog 30 #[.string s] w fun e w' => e = .returned (if ok = true then .tuple #[recV a i n b t, .int .i64 0, .int .i64 0] else .tuple #[recV 0 0 ⟨#[]⟩ ⟨#[]⟩ ⟨#[]⟩, .int .i64 p, .int .i64 7]) ∧ Below w.heap.size w w' := by
  have HP : Hid _ := hP
  clear hP
  go_enter Try.func30, Try.ntmps30
  go_wp2_with fail
  refine (HP.out _).mono ?_
  rintro e w1 ⟨rfl, b1⟩
  have r1 : w1.heap[w.heap.size]? = some (.cells zrec 41 (0, 0)) := by rw [b1.block _ (by simp)]; exact heap_of_new _ _ _ rfl
  have B1 : Below w.heap.size w w1 := ((Below.refl _ w).alloc (Nat.le_refl _) _).trans (b1.mono (by simp))
  have y1 := b1.size
  simp at y1
  have l1 : w.heap.size < w1.heap.size := by omega
  clear b1 HP
  obtain ⟨z0, z1, z2, z3, z4⟩ := zero_cells r1
  have f0 := fun j => frozen_of_row _ _ j _ _ r1
  have R1 : Hid _ := r1
  have HB1 : Hid _ := B1
  clear r1 B1
  cases ok
  · go_wp2
    refine bodyPost_ret (res41 Try.results30 _ _ w.heap.size _ _ _ _ _ _ _ rfl rfl rfl (heap_of_old _ _ _ _ (by simp; omega) (heap_five _ _ _ _ _ R1.out))) rfl ⟨rfl, ?_⟩
    exact (((((HB1.out.setCell (Nat.le_refl _) _).setCell (Nat.le_refl _) _).setCell (Nat.le_refl _) _).setCell (Nat.le_refl _) _).setCell (Nat.le_refl _) _).alloc (by simp; omega) _
  · go_wp2
    refine bodyPost_ret (res41 Try.results30 _ _ w.heap.size _ _ _ _ _ _ _ rfl rfl rfl (heap_of_old _ _ _ _ (by simp; omega) (heap_five _ _ _ _ _ R1.out))) rfl ⟨rfl, ?_⟩
    exact (((((HB1.out.setCell (Nat.le_refl _) _).setCell (Nat.le_refl _) _).setCell (Nat.le_refl _) _).setCell (Nat.le_refl _) _).setCell (Nat.le_refl _) _).alloc (by simp; omega) _
theorem parse_bad (s : ByteArray) (p : Nat) (hs : s.size ≤ maxLen) (h : badAt s = some p) (w : World) :
    Calls Try.prog 30 #[.string s] w fun e w' => e = .returned (.tuple #[recV 0 0 ⟨#[]⟩ ⟨#[]⟩ ⟨#[]⟩, .int .i64 p, .int .i64 7]) ∧ Below w.heap.size w w' :=
  cparse_mid s 0 0 ⟨#[]⟩ ⟨#[]⟩ ⟨#[]⟩ p false (fun w => rparse_bad s p hs h w) w
theorem parse_ok (s : ByteArray) (hs : s.size ≤ maxLen) (h : badAt s = none) (w : World) :
    Calls Try.prog 30 #[.string s] w fun e w' => e = .returned (.tuple #[recV (sf s 3).toNat (valF (sf s) 4 2) (s.extract 6 18) (s.extract 20 (20 + (sf s 19).toNat)) (s.extract (20 + (sf s 19).toNat) (36 + (sf s 19).toNat)), .int .i64 0, .int .i64 0]) ∧ Below w.heap.size w w' :=
  cparse_mid s _ _ _ _ _ 0 true (fun w => rparse_ok s hs h w) w
/-- a record's bytes are read back -/
theorem parse_enc (A I : Nat) (n b t : ByteArray) (R : IsRec A I n b t) (w : World) :
    Calls Try.prog 30 #[.string (encT A I n b t)] w fun e w' => e = .returned (.tuple #[recV A I n b t, .int .i64 0, .int .i64 0]) ∧ Below w.heap.size w w' := by
  have h := parse_ok (encT A I n b t) (by rw [encT_size]; have := R.b; unfold maxLen; omega) (bad_enc R) w
  rw [read_alg R, read_id R, read_len R, read_nonce R, read_body, read_tag R] at h
  exact h
end Go.Proofs.Ytgalgjmhdbncbaa
