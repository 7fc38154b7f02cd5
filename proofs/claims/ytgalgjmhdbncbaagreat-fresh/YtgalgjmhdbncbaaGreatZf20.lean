import Derived.Test.YtgalgjmhdbncbaaGreatZf17
import Derived.Test.YtgalgjmhdbncbaaGreatZf18
import Derived.LaidEql
namespace Go.Proofs.YtgalgjmhdbncbaaGreat
open Go.RowKit
attribute [local go_sem ↓] Go.wp_at_zero Go.wp_at_succ

structure Hd where
  c : Cl
  ctr : Nat
def clF (c : Cl) : Nat → Value | 0 => .int .i64 c.st | 1 => .int .i64 c.alg | 2 => .int .i64 c.id | 3 => .string c.fix | 4 => .int .i64 c.seals | 5 => .int .i64 c.ahead | 6 => .int .i64 c.most | 7 => .int .i64 c.res | _ => .string c.key
def hdF (h : Hd) (j : Nat) : Value := if j = 9 then .int .i64 h.ctr else clF h.c j
def tabF (sx : Nat) (H : Nat → Hd) (j : Nat) : Value := if j = 0 then ptr sx else hdF (H ((j - 1) / 10)) ((j - 1) % 10)
def TabP (w : World) (g sx : Nat) (H : Nat → Hd) : Prop := Row w g 81 92 (tabF sx H)
theorem TabP.sto {w : World} {g sx : Nat} {H : Nat → Hd} (h : TabP w g sx H) : w.cell? ⟨g, 0, none⟩ = some (ptr sx) := by rw [Row.cell h 0 (by omega)]; rfl
theorem TabP.at {w : World} {g sx : Nat} {H : Nat → Hd} (h : TabP w g sx H) (i j : Nat) (hi : i < 8) (hj : j < 10) : w.cell? ⟨g, 1 + i * 10 + j, none⟩ = some (hdF (H i) j) := by
  rw [Row.cell h _ (by omega)]
  unfold tabF
  rw [if_neg (by omega), show (1 + i * 10 + j - 1) / 10 = i by omega, show (1 + i * 10 + j - 1) % 10 = j by omega]
theorem arr9 (c : Cl) : arr 9 (clF c) = clA c := rfl
def zhdA : Array Value := #[.int .i64 0, .int .i64 0, .int .i64 0, .string ⟨#[]⟩, .int .i64 0, .int .i64 0, .int .i64 0, .int .i64 0, .string ⟨#[]⟩, .int .i64 0]
def hdA (h : Hd) : Array Value := #[.int .i64 h.c.st, .int .i64 h.c.alg, .int .i64 h.c.id, .string h.c.fix, .int .i64 h.c.seals, .int .i64 h.c.ahead, .int .i64 h.c.most, .int .i64 h.c.res, .string h.c.key, .int .i64 h.ctr]
theorem al89 : Instr.alloc 89 true (.tuple #[]) = Al 89 := rfl
theorem run_al89 (w : World) : Sem.run Tryz.prog (Al 89) w = .ok (.pointer (some ⟨w.heap.size, 0, none⟩)) (w.alloc (.cells zhdA 89)) := by kernel_rfl
theorem stw89 (p v : Value) : Instr.storeAt 89 p v = StT 89 p v := rfl
theorem run_stT89 (g : Nat) (v : Value) (w : World) : Sem.run Tryz.prog (StT 89 (.pointer (some ⟨g, 0, none⟩)) v) w = stN (blk w g) 10 v g w (stO Tryz.prog 89 v g w) := run_stT 89 10 (by kernel_rfl) g v w
theorem stN_hd (h : Hd) (g : Nat) (w : World) (r : Result Unit) : stN (some (.cells zhdA 89 (0, 0))) 10 (.agg (hdA h)) g w r = .ok () (w.setRow g (hdA h)) := by
  unfold stN hdA
  exact if_pos ⟨rfl, rfl, rfl, by simp [Value.oneCell']⟩
theorem ldw90 (v : Value) : Instr.loadAt 90 v = LdT 90 v := rfl
theorem run_ldT90 (g off : Nat) (w : World) : Sem.run Tryz.prog (LdT 90 (.pointer (some ⟨g, off, none⟩))) w = ldN (blk w g) off 80 w (ldO Tryz.prog 90 g off w) := run_ldT 90 80 _ Tryz.underlying90 rfl (by kernel_rfl) g off w
theorem ldN_tab (sx : Nat) (H : Nat → Hd) (w : World) (r : Result Value) : ldN (some (.cells (arr 81 (tabF sx H)) 92 (0, 0))) 1 80 w r = .ok (.agg (arr 80 fun j => tabF sx H (1 + j))) w := ldN_mid 81 (tabF sx H) 92 1 80 w r (by omega)
theorem ix90 (sx : Nat) (H : Nat → Hd) (w : World) : ∀ k : Nat, k < 8 → (Instr.index 90 (.agg (arr 80 fun j => tabF sx H (1 + j))) (.int .i64 (k : Int))).run Tryz.prog w = .ok (.agg (hdA (H k))) w
  | 0, _ => by kernel_rfl
  | 1, _ => by kernel_rfl
  | 2, _ => by kernel_rfl
  | 3, _ => by kernel_rfl
  | 4, _ => by kernel_rfl
  | 5, _ => by kernel_rfl
  | 6, _ => by kernel_rfl
  | 7, _ => by kernel_rfl
  | n + 8, h => absurd h (by omega)
attribute [local go_sem ↓] al89 stw89 ldw90
attribute [local go_sem] run_al89 run_stT89 stN_hd run_ldT90 ldN_tab blk_new blk_at blk_old blk_drew blk_setCell blk_setRow alloc_setRow

def hit (H : Nat → Hd) (id : Int) (i : Nat) : Prop := (H i).c.st ≠ 0 ∧ ((H i).c.id : Int) = id
theorem cells10 {w : World} {g : Nat} {h : Hd} (hh : w.heap[g]? = some (.cells (hdA h) 89 (0, 0))) : w.cell? ⟨g, 0, none⟩ = some (.int .i64 h.c.st) ∧ w.cell? ⟨g, 2, none⟩ = some (.int .i64 h.c.id) := by
  refine ⟨?_, ?_⟩
  · rw [cell_of_row _ _ 0 _ _ _ hh]; rfl
  · rw [cell_of_row _ _ 2 _ _ _ hh]; rfl
set_option maxRecDepth 100000 in
set_option maxHeartbeats 4000000 in
theorem find_any (g sx : Nat) (H : Nat → Hd) (id : Int) (w : World) (h : TabP w g sx H) :
    Calls Tryz.prog 52 #[ptr g, .int .i64 id] w fun e w' => ((∃ i : Nat, i < 8 ∧ hit H id i ∧ (∀ j, j < i → ¬ hit H id j) ∧ e = .returned (.tuple #[.int .i64 i, .bool true])) ∨ ((∀ j, j < 8 → ¬ hit H id j) ∧ e = .returned (.tuple #[.int .i64 0, .bool false]))) ∧ Below w.heap.size w w' := by
  have q := heap_pos h
  unfold ptr
  go_enter Tryz.func52, Tryz.ntmps52
  go_wp2
  go_loopw [6, 7, 12] (fun _ _ i wr => ∃ k : Nat, k ≤ 8 ∧ i = .int .i64 k ∧ (∀ j, j < k → ¬ hit H id j) ∧ Below w.heap.size w wr) (fun _ _ i _ => 8 - (intOf i).toNat)
  case atStart => exact ⟨0, by omega, rfl, fun j hj => by omega, Below.refl _ _⟩
  case round =>
    obtain ⟨k, hk, rfl, hn, hB⟩ := hrel
    by_cases hk8 : k < 8
    · have ix := fun w => ix90 sx H w k hk8
      have r1 : (wr.alloc (.cells (hdA (H k)) 89)).heap[wr.heap.size]? = some (.cells (hdA (H k)) 89 (0, 0)) := heap_of_new _ _ _ rfl
      obtain ⟨c0, c2⟩ := cells10 r1
      have B2 := hB.alloc hB.size (.cells (hdA (H k)) 89)
      by_cases h0 : (H k).c.st = 0
      · have e0 : (((H k).c.st : Int) == 0) = true := by rw [beq_iff_eq]; omega
        have hn2 : ∀ j, j < k + 1 → ¬ hit H id j := fun j hj hh => by
          by_cases e : j = k
          · subst e; exact hh.1 h0
          · exact hn j (by omega) hh
        have HN : Hid _ := hn2
        clear hn hn2
        go_wp2
        exact ⟨⟨k + 1, by omega, by go_num, HN.out, B2⟩, by simp [intOf]; omega⟩
      · have e0 : (((H k).c.st : Int) == 0) = false := by rw [beq_eq_false_iff_ne]; omega
        by_cases hid : ((H k).c.id : Int) = id
        · have e1 : (((H k).c.id : Int) == id) = true := by rw [beq_iff_eq]; exact hid
          have HH : Hid (hit H id k) := ⟨h0, hid⟩
          have HN : Hid _ := hn
          clear hn
          go_wp2
          go_ret2
          exact ⟨.inl ⟨k, hk8, HH.out, HN.out, rfl⟩, B2⟩
        · have e1 : (((H k).c.id : Int) == id) = false := by rw [beq_eq_false_iff_ne]; exact hid
          have hn2 : ∀ j, j < k + 1 → ¬ hit H id j := fun j hj hh => by
            by_cases e : j = k
            · subst e; exact hid hh.2
            · exact hn j (by omega) hh
          have HN : Hid _ := hn2
          clear hn hn2
          go_wp2
          exact ⟨⟨k + 1, by omega, by go_num, HN.out, B2⟩, by simp [intOf]; omega⟩
    · have : k = 8 := by omega
      subst this
      have HN : Hid _ := hn
      clear hn
      go_wp2
      go_ret2
      exact ⟨.inr ⟨HN.out, rfl⟩, hB⟩
end Go.Proofs.YtgalgjmhdbncbaaGreat
namespace Go.Proofs.YtgalgjmhdbncbaaGreat
open Go.RowKit
attribute [local go_sem ↓] Go.wp_at_zero Go.wp_at_succ
attribute [local go_sem ↓] al89 stw89 ldw90
attribute [local go_sem] run_al89 run_stT89 stN_hd run_ldT90 ldN_tab blk_new blk_at blk_old blk_drew blk_setCell blk_setRow alloc_setRow

set_option maxRecDepth 100000 in
set_option maxHeartbeats 1000000 in
theorem has_any (g sx : Nat) (H : Nat → Hd) (id : Int) (w : World) (h : TabP w g sx H) :
    Calls Tryz.prog 34 #[ptr g, .int .i64 id] w fun e w' => (((∃ i, i < 8 ∧ hit H id i) ∧ e = .returned (.bool true)) ∨ ((∀ j, j < 8 → ¬ hit H id j) ∧ e = .returned (.bool false))) ∧ Below w.heap.size w w' := by
  have hf := fun w h => find_any g sx H id w h
  unfold ptr at hf ⊢
  have HF : Hid _ := hf
  clear hf
  go_enter Tryz.func34, Tryz.ntmps34
  go_wp2_with fail
  refine (HF.out _ h).mono ?_
  rintro e w1 ⟨⟨i, hi, hh, hm, rfl⟩ | ⟨hn, rfl⟩, b1⟩
  · have HH : Hid _ := And.intro hi hh
    clear hi hh hm
    go_wp2
    go_ret
    exact ⟨.inl ⟨⟨i, HH.out.1, HH.out.2⟩, rfl⟩, b1⟩
  · have HN : Hid _ := hn
    clear hn
    go_wp2
    go_ret
    exact ⟨.inr ⟨HN.out, rfl⟩, b1⟩
set_option maxRecDepth 100000 in
set_option maxHeartbeats 4000000 in
theorem free_any (g sx : Nat) (H : Nat → Hd) (w : World) (h : TabP w g sx H) :
    Calls Tryz.prog 82 #[ptr g] w fun e w' => ((∃ i : Nat, i < 8 ∧ (H i).c.st = 0 ∧ (∀ j, j < i → (H j).c.st ≠ 0) ∧ e = .returned (.tuple #[.int .i64 i, .bool true])) ∨ ((∀ j, j < 8 → (H j).c.st ≠ 0) ∧ e = .returned (.tuple #[.int .i64 0, .bool false]))) ∧ Below w.heap.size w w' := by
  have q := heap_pos h
  unfold ptr
  go_enter Tryz.func82, Tryz.ntmps82
  go_wp2
  go_loopw [4, 5, 10] (fun _ _ i wr => ∃ k : Nat, k ≤ 8 ∧ i = .int .i64 k ∧ (∀ j, j < k → (H j).c.st ≠ 0) ∧ Below w.heap.size w wr) (fun _ _ i _ => 8 - (intOf i).toNat)
  case atStart => exact ⟨0, by omega, rfl, fun j hj => by omega, Below.refl _ _⟩
  case round =>
    obtain ⟨k, hk, rfl, hn, hB⟩ := hrel
    by_cases hk8 : k < 8
    · have ix := fun w => ix90 sx H w k hk8
      have r1 : (wr.alloc (.cells (hdA (H k)) 89)).heap[wr.heap.size]? = some (.cells (hdA (H k)) 89 (0, 0)) := heap_of_new _ _ _ rfl
      obtain ⟨c0, c2⟩ := cells10 r1
      have B2 := hB.alloc hB.size (.cells (hdA (H k)) 89)
      by_cases h0 : (H k).c.st = 0
      · have e0 : (((H k).c.st : Int) == 0) = true := by rw [beq_iff_eq]; omega
        have HN : Hid _ := And.intro h0 hn
        clear hn
        go_wp2
        go_ret2
        exact ⟨.inl ⟨k, hk8, HN.out.1, HN.out.2, rfl⟩, B2⟩
      · have e0 : (((H k).c.st : Int) == 0) = false := by rw [beq_eq_false_iff_ne]; omega
        have hn2 : ∀ j, j < k + 1 → (H j).c.st ≠ 0 := fun j hj => by
          by_cases e : j = k
          · subst e; exact h0
          · exact hn j (by omega)
        have HN : Hid _ := hn2
        clear hn hn2
        go_wp2
        exact ⟨⟨k + 1, by omega, by go_num, HN.out, B2⟩, by simp [intOf]; omega⟩
    · have : k = 8 := by omega
      subst this
      have HN : Hid _ := hn
      clear hn
      go_wp2
      go_ret2
      exact ⟨.inr ⟨HN.out, rfl⟩, hB⟩
def liveP (H : Nat → Hd) (id : Int) (i : Nat) (c : Int) : Prop :=
  (i < 8 ∧ hit H id i ∧ (H i).c.st ≠ 2 ∧ (∀ j, j < i → ¬ hit H id j) ∧ c = 0) ∨ (i = 0 ∧ (∃ k, k < 8 ∧ hit H id k ∧ (∀ j, j < k → ¬ hit H id j) ∧ (H k).c.st = 2) ∧ c = 14) ∨ (i = 0 ∧ (∀ j, j < 8 → ¬ hit H id j) ∧ c = 11)
set_option maxRecDepth 100000 in
set_option maxHeartbeats 4000000 in
theorem live_any (g sx : Nat) (H : Nat → Hd) (id : Int) (w : World) (h : TabP w g sx H) :
    Calls Tryz.prog 37 #[ptr g, .int .i64 id] w fun e w' => (∃ (i : Nat) (c : Int), liveP H id i c ∧ e = .returned (.tuple #[.int .i64 i, .int .i64 c])) ∧ Below w.heap.size w w' := by
  have hf := fun w h => find_any g sx H id w h
  unfold ptr at hf ⊢
  have HF : Hid _ := hf
  clear hf
  go_enter Tryz.func37, Tryz.ntmps37
  go_wp2_with fail
  refine (HF.out _ h).mono ?_
  rintro e w1 ⟨⟨i, hi, hh, hm, rfl⟩ | ⟨hn, rfl⟩, b1⟩
  · have h1 : TabP w1 g sx H := Row.keep h b1 (Row.lt h)
    have c0 : w1.cell? ⟨g, 1 + i * 10, none⟩ = some (.int .i64 (H i).c.st) := h1.at i 0 hi (by omega)
    have HH : Hid _ := And.intro hi (And.intro hh hm)
    clear hh hm h1
    by_cases h2 : (H i).c.st = 2
    · have e2 : (((H i).c.st : Int) == 2) = true := by rw [beq_iff_eq]; omega
      go_wp2
      go_ret2
      exact ⟨⟨0, 14, .inr (.inl ⟨rfl, ⟨i, HH.out.1, HH.out.2.1, HH.out.2.2, h2⟩, rfl⟩), rfl⟩, b1⟩
    · have e2 : (((H i).c.st : Int) == 2) = false := by rw [beq_eq_false_iff_ne]; omega
      go_wp2
      go_ret2
      exact ⟨⟨i, 0, .inl ⟨HH.out.1, HH.out.2.1, h2, HH.out.2.2, rfl⟩, rfl⟩, b1⟩
  · have HN : Hid _ := hn
    clear hn
    go_wp2
    go_ret2
    exact ⟨⟨0, 11, .inr (.inr ⟨rfl, HN.out, rfl⟩), rfl⟩, b1⟩
theorem info92 : ∃ i, Tryz.prog.info? 92 = some i ∧ i.size ≠ 0 := by
  have h : (Tryz.prog.info? 92).map (·.size) = some 81 := by kernel_rfl
  rw [Option.map_eq_some_iff] at h
  obtain ⟨i, hi, e⟩ := h
  exact ⟨i, hi, by omega⟩
theorem neq33_same (g : Nat) (w : World) : Sem.run Tryz.prog (binOp .neq 33 (.pointer (some ⟨g, 0, none⟩)) (.pointer (some ⟨g, 0, none⟩))) w = .ok (.bool false) w := by
  obtain ⟨i, hi, hs⟩ := info92
  have h : ∀ d : Nat, Sem.run Tryz.prog (Op.equalIn (d + 1) 33 (.pointer (some ⟨g, 0, none⟩)) (.pointer (some ⟨g, 0, none⟩))) w = .ok true w := fun d => by
    simp [Op.equalIn, run_underlying Tryz.underlying33, sizeOf, typeInfo, hi, run_sameAddr_same]
  simp only [binOp]
  simp [Op.equal, Op.maxDepth, h 9999]
theorem neq33_other (t g : Nat) (w : World) (hne : t ≠ g) {ca cb : Array Value} {ta tb : TypeId} (ha : w.heap[t]? = some (.cells ca ta (0, 0))) (hb : w.heap[g]? = some (.cells cb tb (0, 0))) :
    Sem.run Tryz.prog (binOp .neq 33 (.pointer (some ⟨t, 0, none⟩)) (.pointer (some ⟨g, 0, none⟩))) w = .ok (.bool true) w := by
  obtain ⟨i, hi, hs⟩ := info92
  have h : ∀ d : Nat, Sem.run Tryz.prog (Op.equalIn (d + 1) 33 (.pointer (some ⟨t, 0, none⟩)) (.pointer (some ⟨g, 0, none⟩))) w = .ok false w := fun d => by
    simp [Op.equalIn, run_underlying Tryz.underlying33, sizeOf, typeInfo, hi, hs, run_sameAddr_other w (a := ⟨t, 0, none⟩) (b := ⟨g, 0, none⟩) (by intro e; exact hne (congrArg Addr.block e)) ha hb]
  simp only [binOp]
  simp [Op.equal, Op.maxDepth, h 9999]
def TabIn (w : World) (S : Sto) : Prop := ∀ t, S.tab = some t → ∃ V, Row w t 81 92 V
set_option maxRecDepth 100000 in
set_option maxHeartbeats 4000000 in
theorem over_any (g sx : Nat) (H : Nat → Hd) (S : Sto) (w : World) (h : TabP w g sx H) (hs : StoP w sx S) (ht : TabIn w S) :
    Calls Tryz.prog 36 #[ptr g] w fun e w' => e = .returned (.bool (decide (S.tab ≠ some g))) ∧ w' = w := by
  have c0 := h.sto
  have c1 := hs.tabAt
  unfold ptr at c0 ⊢
  cases e : S.tab with
  | none =>
    rw [e] at c1
    unfold ptrO at c1
    have hn : Sem.run Tryz.prog (binOp .neq 33 (.pointer none) (.pointer (some ⟨g, 0, none⟩))) w = .ok (.bool true) w := by
      have h : ∀ d : Nat, Sem.run Tryz.prog (Op.equalIn (d + 1) 33 (.pointer none) (.pointer (some ⟨g, 0, none⟩))) w = .ok false w := fun d => by
        simp [Op.equalIn, run_underlying Tryz.underlying33]
      simp only [binOp]
      simp [Op.equal, Op.maxDepth, h 9999]
    go_enter Tryz.func36, Tryz.ntmps36
    go_wp2
    go_ret
    exact ⟨rfl, rfl⟩
  | some t =>
    rw [e] at c1
    unfold ptrO at c1
    by_cases e2 : t = g
    · subst e2
      have hn := neq33_same t w
      rw [decide_eq_false (by simp)]
      go_enter Tryz.func36, Tryz.ntmps36
      go_wp2
      go_ret
      exact ⟨rfl, rfl⟩
    · obtain ⟨V, hV⟩ := ht t e
      have hn := neq33_other t g w e2 hV h
      rw [decide_eq_true (by simp; exact e2)]
      go_enter Tryz.func36, Tryz.ntmps36
      go_wp2
      go_ret
      exact ⟨rfl, rfl⟩
end Go.Proofs.YtgalgjmhdbncbaaGreat
