import Derived.Test.YtgalgjmhdbncbaaQ1
namespace Go.Proofs.Ytgalgjmhdbncbaa
open Go.RowKit
attribute [local go_sem ↓] Go.wp_at_zero Go.wp_at_succ

/-! ### a record's parts -/
def bo (n : Nat) : Nat := if n = 0 then 0 else 20
def partsV (g n : Nat) : Array Value := #[.slice (some ⟨g, 0, none⟩) 3 3, .slice (some ⟨g, 3, none⟩) 1 1, .slice (some ⟨g, 4, none⟩) 2 2, .slice (some ⟨g, 6, none⟩) 12 12, .slice (some ⟨g, 18, none⟩) 2 2,
  .slice (some ⟨g, bo n, none⟩) n n, .slice (some ⟨g, 20 + n, none⟩) 16 16, .slice (some ⟨g, 0, none⟩) 20 20]
set_option maxRecDepth 100000 in
set_option maxHeartbeats 2000000 in
theorem cut_any (g n cap : Nat) (hn : n ≤ 100000) (hc : 36 + n ≤ cap) (w : World) : Calls Try.prog 74 #[.slice (some ⟨g, 0, none⟩) (36 + n) cap] w fun e w' => e = .returned (.agg (partsV g n)) ∧ Below w.heap.size w w' := by
  have hi : ((36 + n : Nat) : Int) - 16 = ((20 + n : Nat) : Int) := by omega
  have k1 : ((20 + n : Nat) : Int) ≤ ((36 + n : Nat) : Int) := by omega
  have k2 : ((36 + n : Nat) : Int) ≤ (cap : Int) := by omega
  have k3 : ((20 + n : Nat) : Int) ≤ (cap : Int) := by omega
  have k4 : (20 : Int) ≤ ((20 + n : Nat) : Int) := by omega
  go_enter Try.func74, Try.ntmps74
  go_wp2_with fail
  go_region
  have HE : Hid (#[Value.slice (some ⟨g, 0, none⟩) 3 3, Value.slice (some ⟨g, 3, none⟩) 1 1, Value.slice (some ⟨g, 4, none⟩) 2 2, Value.slice (some ⟨g, 6, none⟩) 12 12, Value.slice (some ⟨g, 18, none⟩) 2 2,
      Value.slice (if 36 + n - 16 = 20 then some ⟨g, 0, none⟩ else some ⟨g, 20, none⟩) (36 + n - 16 - 20) (36 + n - 16 - 20), Value.slice (some ⟨g, 36 + n - 16, none⟩) (36 + n - (36 + n - 16)) (36 + n - (36 + n - 16)), Value.slice (some ⟨g, 0, none⟩) 20 20] = partsV g n) := by
    show _ = _
    unfold partsV bo
    rw [show 36 + n - 16 = 20 + n by omega, show 36 + n - (20 + n) = 16 by omega, show 20 + n - 20 = n by omega]
    by_cases h0 : n = 0
    · subst h0
      rfl
    · rw [if_neg (by omega), if_neg h0]
  rw [HE.out]
  have hh : (w.alloc (.cells (partsV g n) 97)).drew.heap[w.heap.size]? = some (.cells (partsV g n) 97 (0, 0)) := heap_of_new w _ _ rfl
  go_wp2
  all_goals
    refine bodyPost_ret (v := .agg (partsV g n)) (results_cell_row Try.results74 _ _ w.heap.size 97 _ (0, 0) _ rfl hh Try.underlying97 rfl (by kernel_rfl)) rfl ⟨rfl, ?_⟩
    exact ((Below.refl _ w).alloc (Nat.le_refl _) _).drew

/-! ### copies of texts into rows, at a place -/
def cpF (f : Nat → UInt8) (off : Nat) (S : ByteArray) (j : Nat) : UInt8 := if off ≤ j ∧ j < off + S.size then sf S (j - off) else f j
theorem cpAt {ops : Array Oper} {rest : List Oper} {o : Oper} {a : Act} {w : World} {Q : Exit → Act → World → Prop} (hgd : o.guard = none) (d s : Operand)
    (ho : o.op = .call { callee := .builtin .copy, args := #[d, s], argTypes := #[31, 9] }) (g off n dLen dCap : Nat) (t : TypeId) (f : Nat → UInt8) (S : ByteArray)
    (hd : a.eval d = .slice (some ⟨g, off, none⟩) dLen dCap) (hs : a.eval s = .string S) (hg : Row w g n t (by8 f)) (hle : S.size ≤ dLen) (hn : off + S.size ≤ n)
    (h : ∀ w', Chg g w w' → Row w' g n t (by8 (cpF f off S)) → wpList Try.prog ops Q rest (a.put o.dst (goInt S.size)) w') : wpList Try.prog ops Q (o :: rest) a w := by
  refine wpList_plain hgd fun K hK => ?_
  have hrun := Lib.run_copy_row_string (P := Try.prog) w 31 9 o.type 5 g off dLen dCap S (arr n (by8 f)) t Try.underlying31 (by kernel_rfl) hg hle (by simpa [arr_size] using hn)
  have he : ((arr n (by8 f)).toList.take off ++ Lib.byteCells S.data.toList ++ (arr n (by8 f)).toList.drop (off + S.size)).toArray = arr n (by8 (cpF f off S)) := by
    have hl : (Lib.byteCells S.data.toList).length = S.size := by simp [Lib.byteCells]
    have hlen : ((arr n (by8 f)).toList.take off).length = off := by
      have : (arr n (by8 f)).toList.length = n := by simp [arr]
      rw [List.length_take]; omega
    apply Array.ext_getElem?
    intro i
    simp only [List.getElem?_toArray]
    rw [List.append_assoc, List.getElem?_append, hlen]
    by_cases h1 : i < off
    · rw [if_pos h1, List.getElem?_take, if_pos h1, arr_get _ _ _ (by omega)]
      have : (arr n (by8 f)).toList[i]? = some (by8 f i) := by simpa using arr_get n (by8 f) i (by omega)
      have e : cpF f off S i = f i := if_neg (by omega)
      rw [this]
      show some (Value.int .u8 ((f i).toNat : Int)) = some (Value.int .u8 ((cpF f off S i).toNat : Int))
      rw [e]
    · rw [if_neg h1, List.getElem?_append, hl]
      by_cases h2 : i - off < S.size
      · have e : cpF f off S i = sf S (i - off) := if_pos (by omega)
        rw [if_pos h2, byteCells_get S _ h2, arr_get _ _ _ (by omega)]
        show some (Value.int .u8 ((sf S (i - off)).toNat : Int)) = some (Value.int .u8 ((cpF f off S i).toNat : Int))
        rw [e]
      · rw [if_neg h2, List.getElem?_drop, show off + S.size + (i - off - S.size) = i by omega]
        by_cases h3 : i < n
        · rw [arr_get _ _ _ h3]
          have : (arr n (by8 f)).toList[i]? = some (by8 f i) := by simpa using arr_get n (by8 f) i h3
          have e : cpF f off S i = f i := if_neg (by omega)
          rw [this]
          show some (Value.int .u8 ((f i).toNat : Int)) = some (Value.int .u8 ((cpF f off S i).toNat : Int))
          rw [e]
        · simp [arr, h3]
  rw [he] at hrun
  unfold Oper.wp
  simp [execOp, ho, resolve, invoke, builtin, hd, hs, hrun, Result.andThen]
  exact hK _ _ (h _ (Chg.setRow _ _ _) hg.setRow)
end Go.Proofs.Ytgalgjmhdbncbaa
