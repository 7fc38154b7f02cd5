import Derived.Test.YtgalgjmhdbncbaaB1
namespace Go.Proofs.Ytgalgjmhdbncbaa
open Go.RowKit

/-- a byte as an int -/
def in8 (f : Nat → UInt8) (j : Nat) : Value := .int .i64 ((f j).toNat : Int)
theorem i64_xor_nat (a b : Nat) (ha : a < 9223372036854775808) (hb : b < 9223372036854775808) : bits .xor .i64 (a : Int) (b : Int) = ((a ^^^ b : Nat) : Int) := by
  have hx : a ^^^ b < 2 ^ 63 := Nat.xor_lt_two_pow (by omega) (by omega)
  show IntKind.i64.wrap ((BitVec.ofInt 64 (a : Int) ^^^ BitVec.ofInt 64 (b : Int)).toNat : Int) = _
  rw [BitVec.toNat_xor, ofInt_u64 a (by omega), ofInt_u64 b (by omega), IntKind.wrap_i64]
  omega
theorem i64_xor_b (a b : UInt8) : bits .xor .i64 (a.toNat : Int) (b.toNat : Int) = ((a ^^^ b).toNat : Int) := by
  have h1 := a.toNat_lt
  have h2 := b.toNat_lt
  rw [i64_xor_nat _ _ (by omega) (by omega), UInt8.toNat_xor]

theorem info3 : (Try.prog.info? 3).map (fun i => (i.zero, i.size, i.bytes)) = some (some (.int .i64 0), 1, 8) := by kernel_rfl
/-- the ints of a slice that the call has made -/
def Own (w : World) (base : Nat) (v : Value) (n : Nat) (f : Nat → UInt8) : Prop := w.ownsRow base 3 1 v n (cl n (in8 f))
theorem Own.keep {w w1 : World} {base B n : Nat} {v : Value} {f : Nat → UInt8} (h : Own w base v n f) (hb : Below B w w1) (hB : w.heap.size ≤ B) : Own w1 base v n f := by
  obtain ⟨h1, h2⟩ := h
  refine ⟨h1, ?_⟩
  rcases h2 with h2 | ⟨g, cap, cur, a, b, c, d⟩
  · exact .inl h2
  · have hlt : g < w.heap.size := (Array.getElem?_eq_some_iff.1 c).1
    exact .inr ⟨g, cap, cur, a, b, by rw [hb.block g (by omega)]; exact c, d⟩
theorem Own.alloc {w : World} {base n : Nat} {v : Value} {f : Nat → UInt8} (h : Own w base v n f) (o : Obj) : Own (w.alloc o) base v n f :=
  h.keep ((Below.refl w.heap.size w).alloc (Nat.le_refl _) o) (Nat.le_refl _)
/-- what is at hand of an owned slice that is not empty -/
theorem Own.got {w : World} {base n : Nat} {v : Value} {f : Nat → UInt8} (h : Own w base v n f) (hn : 0 < n) :
    ∃ g cap, v = .slice (some ⟨g, 0, none⟩) n cap ∧ base ≤ g ∧ g < w.heap.size ∧ n ≤ cap ∧ (∀ j, j < n → w.cell? ⟨g, j, none⟩ = some (.int .i64 (f j).toNat)) := by
  obtain ⟨h1, h2⟩ := h
  rcases h2 with ⟨_, h2⟩ | ⟨g, cap, cur, rfl, b, c, d, _, _, e⟩
  · omega
  · refine ⟨g, cap, rfl, b, (Array.getElem?_eq_some_iff.1 c).1, d, fun j hj => ?_⟩
    rw [cell_of_row _ _ j _ _ _ c]
    have h3 : (cur.toList.take (n * 1))[j]? = (cl n (in8 f))[j]? := by rw [e]
    rw [List.getElem?_take_of_lt (by omega)] at h3
    rw [← Array.getElem?_toList, h3]
    simp [cl, hj, in8]
theorem Own.nil (w : World) (base : Nat) (f : Nat → UInt8) : Own w base (.slice none 0 0) 0 f := ⟨rfl, .inl ⟨rfl, rfl⟩⟩
theorem Own.congr {w : World} {base n : Nat} {v : Value} {f g : Nat → UInt8} (h : Own w base v n f) (hf : ∀ j, j < n → f j = g j) : Own w base v n g := by
  have : cl n (in8 f) = cl n (in8 g) := List.map_congr_left (fun j hj => by simp only [in8]; rw [hf j (by simpa using hj)])
  unfold Own
  rw [← this]; exact h
theorem cl_snoc (n : Nat) (f : Nat → UInt8) (y : UInt8) : cl n (in8 f) ++ [.int .i64 (y.toNat : Int)] = cl (n + 1) (in8 fun j => if j = n then y else f j) := by
  unfold cl
  rw [List.range_succ, List.map_append]
  congr 1
  · exact List.map_congr_left (fun j hj => by
      have : j < n := by simpa using hj
      simp only [in8]
      rw [if_neg (by omega)])
  · simp [in8]
theorem below_grown {w w' : World} {base : Nat} {row : Option Nat} (hg : w.grownBy w' row) (hB : base ≤ w.heap.size) (hr : ∀ k, row = some k → base ≤ k) : Below base w w' :=
  (Below.refl base w).grown hg hB hr
theorem Own.block {w : World} {base n : Nat} {v : Value} {f : Nat → UInt8} (h : Own w base v n f) : ∀ k, v.ownBlock = some k → base ≤ k := by
  intro k hk
  rcases h.2 with ⟨rfl, _⟩ | ⟨g, cap, cur, rfl, b, _⟩
  · cases hk
  · simp [Value.ownBlock] at hk
    omega
theorem ap1 {ops : Array Oper} {rest : List Oper} {o : Oper} {a : Act} {W : World} {Q : Exit → Act → World → Prop} (hgd : o.guard = none) (s x : Operand)
    (ho : o.op = .call { callee := .builtin .append, args := #[s, x], argTypes := #[101, 101] }) (base n : Nat) (v : Value) (f : Nat → UInt8) (hs : a.eval s = v) (hown : Own W base v n f) (y : UInt8)
    (hx : a.eval x = .slice (some ⟨W.heap.size, 0, none⟩) 1 1) (hn : n ≤ 1000000) (hbase : base ≤ W.heap.size)
    (h : ∀ v' w', Own w' base v' (n + 1) (fun j => if j = n then y else f j) → Below base W w' → wpList Try.prog ops Q rest (a.put o.dst v') w') :
    wpList Try.prog ops Q (o :: rest) a (W.alloc (.cells #[.int .i64 (y.toNat : Int)] 3)) := by
  obtain ⟨i0, hi, hz0, hz1, hz2⟩ := info_parts info3
  refine wpList_append_own _ hgd s x 101 ho base 3 i0 (.int .i64 0) 1 8 Try.underlying101 hi hz0 hz1 hz2 rfl (by decide) v n (cl n (in8 f)) hs (hown.alloc _) ⟨W.heap.size, 0, none⟩ 1 1 [.int .i64 (y.toNat : Int)] hx rfl (cell_one_new _ _ _)
    (fun u hu => by simp at hu; subst hu; rfl) (by unfold maxLen; omega) (by omega) (by simp; omega) ?_
  intro v' w' h1 h2 _
  rw [cl_snoc] at h1
  exact h v' w' h1 (((Below.refl base W).alloc hbase _).trans (below_grown h2 (by simp; omega) hown.block))

/-! ### times -/
def tmS (a b : Nat) : Nat → Nat × Nat × Nat
  | 0 => (0, a, b)
  | i + 1 => (if (tmS a b i).2.2 % 2 = 1 then (tmS a b i).1 ^^^ (tmS a b i).2.1 else (tmS a b i).1,
      if (tmS a b i).2.1 * 2 ≥ 256 then ((tmS a b i).2.1 * 2) ^^^ 283 else (tmS a b i).2.1 * 2, (tmS a b i).2.2 / 2)
theorem x283 : ∀ n : Fin 256, (n.val + 256) ^^^ 283 < 256 := by decide +kernel
theorem tmS_lt (a b : Nat) (ha : a < 256) (hb : b < 256) : ∀ i, (tmS a b i).1 < 256 ∧ (tmS a b i).2.1 < 256 ∧ (tmS a b i).2.2 < 256
  | 0 => ⟨by simp [tmS], ha, hb⟩
  | i + 1 => by
    obtain ⟨h1, h2, h3⟩ := tmS_lt a b ha hb i
    simp only [tmS]
    refine ⟨?_, ?_, by omega⟩
    · split
      · exact Nat.xor_lt_two_pow (n := 8) h1 h2
      · exact h1
    · split
      · rename_i h
        have := x283 ⟨(tmS a b i).2.1 * 2 - 256, by omega⟩
        simp only at this
        rwa [show (tmS a b i).2.1 * 2 - 256 + 256 = (tmS a b i).2.1 * 2 by omega] at this
      · omega
set_option maxRecDepth 100000 in
set_option maxHeartbeats 1000000 in
theorem times_ref (a b : Nat) (ha : a < 256) (hb : b < 256) (w : World) :
    Calls Try.prog 78 #[.int .i64 a, .int .i64 b] w fun e w' => e = .returned (.int .i64 (tmS a b 8).1) ∧ w' = w := by
  go_enter Try.func78, Try.ntmps78
  go_wp2
  go_loop [0, 1, 5, 6] (fun x y p i => ∃ k : Nat, k ≤ 8 ∧ i = .int .i64 k ∧ p = .int .i64 (tmS a b k).1 ∧ x = .int .i64 (tmS a b k).2.1 ∧ y = .int .i64 (tmS a b k).2.2) (fun _ _ _ i => 8 - (intOf i).toNat)
  case atStart => exact ⟨0, by omega, rfl, rfl, rfl, rfl⟩
  case round =>
    obtain ⟨k, hk, rfl, rfl, rfl, rfl⟩ := hrel
    by_cases hlt : k < 8
    · obtain ⟨h1, h2, h3⟩ := tmS_lt a b ha hb k
      have e : tmS a b (k + 1) = (if (tmS a b k).2.2 % 2 = 1 then (tmS a b k).1 ^^^ (tmS a b k).2.1 else (tmS a b k).1,
        if (tmS a b k).2.1 * 2 ≥ 256 then ((tmS a b k).2.1 * 2) ^^^ 283 else (tmS a b k).2.1 * 2, (tmS a b k).2.2 / 2) := rfl
      have HE : Hid _ := e
      clear e
      generalize (tmS a b k).1 = p at *
      generalize (tmS a b k).2.1 = x at *
      generalize (tmS a b k).2.2 = y at *
      have X1 : Hid (bits .xor .i64 (p : Int) (x : Int) = ((p ^^^ x : Nat) : Int)) := i64_xor_nat p x (by omega) (by omega)
      have X2 : Hid (bits .xor .i64 ((x : Int) * 2) 283 = ((x * 2 ^^^ 283 : Nat) : Int)) := by
        have := i64_xor_nat (x * 2) 283 (by omega) (by omega)
        rw [show ((x * 2 : Nat) : Int) = (x : Int) * 2 by omega] at this
        exact this
      by_cases c1 : y % 2 = 1
      · have d1 : ((y : Int) % 2 == 1) = true := beq_iff_eq.2 (by omega)
        by_cases c2 : x * 2 ≥ 256
        · have d2 : (256 : Int) ≤ (x : Int) * 2 := by omega
          have H1 : Hid _ := c1
          have H2 : Hid _ := c2
          clear c1 c2
          go_wp2
          go_round
          case rel => exact ⟨k + 1, by omega, by go_num, by rw [HE.out, if_pos H1.out, X1.out], by rw [HE.out, if_pos H2.out, X2.out], by rw [HE.out]; go_num⟩
          case measure => simp [intOf]; omega
        · have d2 : (x : Int) * 2 < 256 := by omega
          have H1 : Hid _ := c1
          have H2 : Hid _ := c2
          clear c1 c2
          go_wp2
          go_round
          case rel => exact ⟨k + 1, by omega, by go_num, by rw [HE.out, if_pos H1.out, X1.out], by rw [HE.out, if_neg H2.out]; go_num, by rw [HE.out]; go_num⟩
          case measure => simp [intOf]; omega
      · have d1 : ((y : Int) % 2 == 1) = false := beq_eq_false_iff_ne.2 (by omega)
        by_cases c2 : x * 2 ≥ 256
        · have d2 : (256 : Int) ≤ (x : Int) * 2 := by omega
          have H1 : Hid _ := c1
          have H2 : Hid _ := c2
          clear c1 c2
          go_wp2
          go_round
          case rel => exact ⟨k + 1, by omega, by go_num, by rw [HE.out, if_neg H1.out], by rw [HE.out, if_pos H2.out, X2.out], by rw [HE.out]; go_num⟩
          case measure => simp [intOf]; omega
        · have d2 : (x : Int) * 2 < 256 := by omega
          have H1 : Hid _ := c1
          have H2 : Hid _ := c2
          clear c1 c2
          go_wp2
          go_round
          case rel => exact ⟨k + 1, by omega, by go_num, by rw [HE.out, if_neg H1.out], by rw [HE.out, if_neg H2.out]; go_num, by rw [HE.out]; go_num⟩
          case measure => simp [intOf]; omega
    · have h8 : k = 8 := by omega
      subst h8
      go_wp2
      go_ret
      exact ⟨rfl, rfl⟩
end Go.Proofs.Ytgalgjmhdbncbaa
