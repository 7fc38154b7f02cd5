import Derived.Test.YtgalgjmhdbncbaaGreatZt07
import Derived.LaidEql
import Derived.Deep.RegionHeld
import Derived.Test.YtgalgjmhdbncbaaGreatZt00
namespace Go.Proofs.YtgalgjmhdbncbaaGreat
open Go.RowKit
attribute [local go_sem ↓] Go.wp_at_zero Go.wp_at_succ

structure Hd where
  c : Cl
  ctr : Nat
def clF (c : Cl) : Nat → Value | 0 => .int .i64 c.st | 1 => .int .i64 c.alg | 2 => .int .i64 c.id | 3 => .string c.fix | 4 => .int .i64 c.seals | 5 => .int .i64 c.ahead | 6 => .int .i64 c.most | 7 => .int .i64 c.res | _ => .string c.key
def hdF (h : Hd) (j : Nat) : Value := if j = 9 then .int .i64 h.ctr else clF h.c j
def tabF (sx : Nat) (H : Nat → Hd) (j : Nat) : Value := if j = 0 then ptr sx else hdF (H ((j - 1) / 10)) ((j - 1) % 10)
def TabP (w : World) (g sx : Nat) (H : Nat → Hd) : Prop := Row w g 81 92 (tabF sx H)
theorem TabP.sto {w : World} {g sx : Nat} {H : Nat → Hd} (h : TabP w g sx H) : w.cell? ⟨g, 0, none⟩ = some (ptr sx) := by rw [Row.cell h 0 (by omega)]; rfl
theorem TabP.at {w : World} {g sx : Nat} {H : Nat → Hd} (h : TabP w g sx H) (i j : Nat) (hi : i < 8) (hj : j < 10) : w.cell? ⟨g, 1 + i * 10 + j, none⟩ = some (hdF (H i) j) := by
  rw [Row.cell h _ (by omega)]
  unfold tabF
  rw [if_neg (by omega), show (1 + i * 10 + j - 1) / 10 = i by omega, show (1 + i * 10 + j - 1) % 10 = j by omega]
theorem arr9 (c : Cl) : arr 9 (clF c) = clA c := rfl
def zhdA : Array Value := #[.int .i64 0, .int .i64 0, .int .i64 0, .string ⟨#[]⟩, .int .i64 0, .int .i64 0, .int .i64 0, .int .i64 0, .string ⟨#[]⟩, .int .i64 0]
def hdA (h : Hd) : Array Value := #[.int .i64 h.c.st, .int .i64 h.c.alg, .int .i64 h.c.id, .string h.c.fix, .int .i64 h.c.seals, .int .i64 h.c.ahead, .int .i64 h.c.most, .int .i64 h.c.res, .string h.c.key, .int .i64 h.ctr]
theorem al89 : Instr.alloc 89 true (.tuple #[]) = Al 89 := rfl
theorem run_al89 (w : World) : Sem.run Tryz.prog (Al 89) w = .ok (.pointer (some ⟨w.heap.size, 0, none⟩)) (w.alloc (.cells zhdA 89)) := by kernel_rfl
theorem stw89 (p v : Value) : Instr.storeAt 89 p v = StT 89 p v := rfl
theorem run_stT89 (g : Nat) (v : Value) (w : World) : Sem.run Tryz.prog (StT 89 (.pointer (some ⟨g, 0, none⟩)) v) w = stN (blk w g) 10 v g w (stO Tryz.prog 89 v g w) := run_stT 89 10 (by kernel_rfl) g v w
theorem stN_hd (h : Hd) (g : Nat) (w : World) (r : Result Unit) : stN (some (.cells zhdA 89 (0, 0))) 10 (.agg (hdA h)) g w r = .ok () (w.setRow g (hdA h)) := by
  unfold stN hdA
  exact if_pos ⟨rfl, rfl, rfl, by simp [Value.oneCell']⟩
theorem ldw90 (v : Value) : Instr.loadAt 90 v = LdT 90 v := rfl
theorem run_ldT90 (g off : Nat) (w : World) : Sem.run Tryz.prog (LdT 90 (.pointer (some ⟨g, off, none⟩))) w = ldN (blk w g) off 80 w (ldO Tryz.prog 90 g off w) := run_ldT 90 80 _ Tryz.underlying90 rfl (by kernel_rfl) g off w
theorem ldN_tab (sx : Nat) (H : Nat → Hd) (w : World) (r : Result Value) : ldN (some (.cells (arr 81 (tabF sx H)) 92 (0, 0))) 1 80 w r = .ok (.agg (arr 80 fun j => tabF sx H (1 + j))) w := ldN_mid 81 (tabF sx H) 92 1 80 w r (by omega)
theorem ix90 (sx : Nat) (H : Nat → Hd) (w : World) : ∀ k : Nat, k < 8 → (Instr.index 90 (.agg (arr 80 fun j => tabF sx H (1 + j))) (.int .i64 (k : Int))).run Tryz.prog w = .ok (.agg (hdA (H k))) w
  | 0, _ => by kernel_rfl
  | 1, _ => by kernel_rfl
  | 2, _ => by kernel_rfl
  | 3, _ => by kernel_rfl
  | 4, _ => by kernel_rfl
  | 5, _ => by kernel_rfl
  | 6, _ => by kernel_rfl
  | 7, _ => by kernel_rfl
  | n + 8, h => absurd h (by omega)
attribute [local go_sem ↓] al89 stw89 ldw90
attribute [local go_sem] run_al89 run_stT89 stN_hd run_ldT90 ldN_tab blk_new blk_at blk_old blk_drew blk_setCell blk_setRow alloc_setRow

def hit (H : Nat → Hd) (id : Int) (i : Nat) : Prop := (H i).c.st ≠ 0 ∧ ((H i).c.id : Int) = id
theorem cells10 {w : World} {g : Nat} {h : Hd} (hh : w.heap[g]? = some (.cells (hdA h) 89 (0, 0))) : w.cell? ⟨g, 0, none⟩ = some (.int .i64 h.c.st) ∧ w.cell? ⟨g, 2, none⟩ = some (.int .i64 h.c.id) := by
  refine ⟨?_, ?_⟩
  · rw [cell_of_row _ _ 0 _ _ _ hh]; rfl
  · rw [cell_of_row _ _ 2 _ _ _ hh]; rfl
set_option maxRecDepth 100000 in
set_option maxHeartbeats 4000000 in
theorem find_any (g sx : Nat) (H : Nat → Hd) (id : Int) (w : World) (h : TabP w g sx H) :
    Calls Tryz.prog 52 #[ptr g, .int .i64 id] w fun e w' => ((∃ i : Nat, i < 8 ∧ hit H id i ∧ (∀ j, j < i → ¬ hit H id j) ∧ e = .returned (.tuple #[.int .i64 i, .bool true])) ∨ ((∀ j, j < 8 → ¬ hit H id j) ∧ e = .returned (.tuple #[.int .i64 0, .bool false]))) ∧ Below w.heap.size w w' := by
  have q := heap_pos h
  unfold ptr
  go_enter Tryz.func52, Tryz.ntmps52
  go_wp2
  go_loopw [6, 7, 12] (fun _ _ i wr => ∃ k : Nat, k ≤ 8 ∧ i = .int .i64 k ∧ (∀ j, j < k → ¬ hit H id j) ∧ Below w.heap.size w wr) (fun _ _ i _ => 8 - (intOf i).toNat)
  case atStart => exact ⟨0, by omega, rfl, fun j hj => by omega, Below.refl _ _⟩
  case round =>
    obtain ⟨k, hk, rfl, hn, hB⟩ := hrel
    by_cases hk8 : k < 8
    · have ix := fun w => ix90 sx H w k hk8
      have r1 : (wr.alloc (.cells (hdA (H k)) 89)).heap[wr.heap.size]? = some (.cells (hdA (H k)) 89 (0, 0)) := heap_of_new _ _ _ rfl
      obtain ⟨c0, c2⟩ := cells10 r1
      have B2 := hB.alloc hB.size (.cells (hdA (H k)) 89)
      by_cases h0 : (H k).c.st = 0
      · have e0 : (((H k).c.st : Int) == 0) = true := by rw [beq_iff_eq]; omega
        have hn2 : ∀ j, j < k + 1 → ¬ hit H id j := fun j hj hh => by
          by_cases e : j = k
          · subst e; exact hh.1 h0
          · exact hn j (by omega) hh
        have HN : Hid _ := hn2
        clear hn hn2
        go_wp2
        exact ⟨⟨k + 1, by omega, by go_num, HN.out, B2⟩, by simp [intOf]; omega⟩
      · have e0 : (((H k).c.st : Int) == 0) = false := by rw [beq_eq_false_iff_ne]; omega
        by_cases hid : ((H k).c.id : Int) = id
        · have e1 : (((H k).c.id : Int) == id) = true := by rw [beq_iff_eq]; exact hid
          have HH : Hid (hit H id k) := ⟨h0, hid⟩
          have HN : Hid _ := hn
          clear hn
          go_wp2
          go_ret2
          exact ⟨.inl ⟨k, hk8, HH.out, HN.out, rfl⟩, B2⟩
        · have e1 : (((H k).c.id : Int) == id) = false := by rw [beq_eq_false_iff_ne]; exact hid
          have hn2 : ∀ j, j < k + 1 → ¬ hit H id j := fun j hj hh => by
            by_cases e : j = k
            · subst e; exact hid hh.2
            · exact hn j (by omega) hh
          have HN : Hid _ := hn2
          clear hn hn2
          go_wp2
          exact ⟨⟨k + 1, by omega, by go_num, HN.out, B2⟩, by simp [intOf]; omega⟩
    · have : k = 8 := by omega
      subst this
      have HN : Hid _ := hn
      clear hn
      go_wp2
      go_ret2
      exact ⟨.inr ⟨HN.out, rfl⟩, hB⟩
end Go.Proofs.YtgalgjmhdbncbaaGreat
namespace Go.Proofs.YtgalgjmhdbncbaaGreat
open Go.RowKit
attribute [local go_sem ↓] Go.wp_at_zero Go.wp_at_succ
attribute [local go_sem ↓] al89 stw89 ldw90
attribute [local go_sem] run_al89 run_stT89 stN_hd run_ldT90 ldN_tab blk_new blk_at blk_old blk_drew blk_setCell blk_setRow alloc_setRow

set_option maxRecDepth 100000 in
set_option maxHeartbeats 1000000 in
theorem has_any (g sx : Nat) (H : Nat → Hd) (id : Int) (w : World) (h : TabP w g sx H) :
    Calls Tryz.prog 34 #[ptr g, .int .i64 id] w fun e w' => (((∃ i, i < 8 ∧ hit H id i) ∧ e = .returned (.bool true)) ∨ ((∀ j, j < 8 → ¬ hit H id j) ∧ e = .returned (.bool false))) ∧ Below w.heap.size w w' := by
  have hf := fun w h => find_any g sx H id w h
  unfold ptr at hf ⊢
  have HF : Hid _ := hf
  clear hf
  go_enter Tryz.func34, Tryz.ntmps34
  go_wp2_with fail
  refine (HF.out _ h).mono ?_
  rintro e w1 ⟨⟨i, hi, hh, hm, rfl⟩ | ⟨hn, rfl⟩, b1⟩
  · have HH : Hid _ := And.intro hi hh
    clear hi hh hm
    go_wp2
    go_ret
    exact ⟨.inl ⟨⟨i, HH.out.1, HH.out.2⟩, rfl⟩, b1⟩
  · have HN : Hid _ := hn
    clear hn
    go_wp2
    go_ret
    exact ⟨.inr ⟨HN.out, rfl⟩, b1⟩
set_option maxRecDepth 100000 in
set_option maxHeartbeats 4000000 in
theorem free_any (g sx : Nat) (H : Nat → Hd) (w : World) (h : TabP w g sx H) :
    Calls Tryz.prog 82 #[ptr g] w fun e w' => ((∃ i : Nat, i < 8 ∧ (H i).c.st = 0 ∧ (∀ j, j < i → (H j).c.st ≠ 0) ∧ e = .returned (.tuple #[.int .i64 i, .bool true])) ∨ ((∀ j, j < 8 → (H j).c.st ≠ 0) ∧ e = .returned (.tuple #[.int .i64 0, .bool false]))) ∧ Below w.heap.size w w' := by
  have q := heap_pos h
  unfold ptr
  go_enter Tryz.func82, Tryz.ntmps82
  go_wp2
  go_loopw [4, 5, 10] (fun _ _ i wr => ∃ k : Nat, k ≤ 8 ∧ i = .int .i64 k ∧ (∀ j, j < k → (H j).c.st ≠ 0) ∧ Below w.heap.size w wr) (fun _ _ i _ => 8 - (intOf i).toNat)
  case atStart => exact ⟨0, by omega, rfl, fun j hj => by omega, Below.refl _ _⟩
  case round =>
    obtain ⟨k, hk, rfl, hn, hB⟩ := hrel
    by_cases hk8 : k < 8
    · have ix := fun w => ix90 sx H w k hk8
      have r1 : (wr.alloc (.cells (hdA (H k)) 89)).heap[wr.heap.size]? = some (.cells (hdA (H k)) 89 (0, 0)) := heap_of_new _ _ _ rfl
      obtain ⟨c0, c2⟩ := cells10 r1
      have B2 := hB.alloc hB.size (.cells (hdA (H k)) 89)
      by_cases h0 : (H k).c.st = 0
      · have e0 : (((H k).c.st : Int) == 0) = true := by rw [beq_iff_eq]; omega
        have HN : Hid _ := And.intro h0 hn
        clear hn
        go_wp2
        go_ret2
        exact ⟨.inl ⟨k, hk8, HN.out.1, HN.out.2, rfl⟩, B2⟩
      · have e0 : (((H k).c.st : Int) == 0) = false := by rw [beq_eq_false_iff_ne]; omega
        have hn2 : ∀ j, j < k + 1 → (H j).c.st ≠ 0 := fun j hj => by
          by_cases e : j = k
          · subst e; exact h0
          · exact hn j (by omega)
        have HN : Hid _ := hn2
        clear hn hn2
        go_wp2
        exact ⟨⟨k + 1, by omega, by go_num, HN.out, B2⟩, by simp [intOf]; omega⟩
    · have : k = 8 := by omega
      subst this
      have HN : Hid _ := hn
      clear hn
      go_wp2
      go_ret2
      exact ⟨.inr ⟨HN.out, rfl⟩, hB⟩
def liveP (H : Nat → Hd) (id : Int) (i : Nat) (c : Int) : Prop :=
  (i < 8 ∧ hit H id i ∧ (H i).c.st ≠ 2 ∧ (∀ j, j < i → ¬ hit H id j) ∧ c = 0) ∨ (i = 0 ∧ (∃ k, k < 8 ∧ hit H id k ∧ (∀ j, j < k → ¬ hit H id j) ∧ (H k).c.st = 2) ∧ c = 14) ∨ (i = 0 ∧ (∀ j, j < 8 → ¬ hit H id j) ∧ c = 11)
set_option maxRecDepth 100000 in
set_option maxHeartbeats 4000000 in
theorem live_any (g sx : Nat) (H : Nat → Hd) (id : Int) (w : World) (h : TabP w g sx H) :
    Calls Tryz.prog 37 #[ptr g, .int .i64 id] w fun e w' => (∃ (i : Nat) (c : Int), liveP H id i c ∧ e = .returned (.tuple #[.int .i64 i, .int .i64 c])) ∧ Below w.heap.size w w' := by
  have hf := fun w h => find_any g sx H id w h
  unfold ptr at hf ⊢
  have HF : Hid _ := hf
  clear hf
  go_enter Tryz.func37, Tryz.ntmps37
  go_wp2_with fail
  refine (HF.out _ h).mono ?_
  rintro e w1 ⟨⟨i, hi, hh, hm, rfl⟩ | ⟨hn, rfl⟩, b1⟩
  · have h1 : TabP w1 g sx H := Row.keep h b1 (Row.lt h)
    have c0 : w1.cell? ⟨g, 1 + i * 10, none⟩ = some (.int .i64 (H i).c.st) := h1.at i 0 hi (by omega)
    have HH : Hid _ := And.intro hi (And.intro hh hm)
    clear hh hm h1
    by_cases h2 : (H i).c.st = 2
    · have e2 : (((H i).c.st : Int) == 2) = true := by rw [beq_iff_eq]; omega
      go_wp2
      go_ret2
      exact ⟨⟨0, 14, .inr (.inl ⟨rfl, ⟨i, HH.out.1, HH.out.2.1, HH.out.2.2, h2⟩, rfl⟩), rfl⟩, b1⟩
    · have e2 : (((H i).c.st : Int) == 2) = false := by rw [beq_eq_false_iff_ne]; omega
      go_wp2
      go_ret2
      exact ⟨⟨i, 0, .inl ⟨HH.out.1, HH.out.2.1, h2, HH.out.2.2, rfl⟩, rfl⟩, b1⟩
  · have HN : Hid _ := hn
    clear hn
    go_wp2
    go_ret2
    exact ⟨⟨0, 11, .inr (.inr ⟨rfl, HN.out, rfl⟩), rfl⟩, b1⟩
theorem info92 : ∃ i, Tryz.prog.info? 92 = some i ∧ i.size ≠ 0 := by
  have h : (Tryz.prog.info? 92).map (·.size) = some 81 := by kernel_rfl
  rw [Option.map_eq_some_iff] at h
  obtain ⟨i, hi, e⟩ := h
  exact ⟨i, hi, by omega⟩
theorem neq33_same (g : Nat) (w : World) : Sem.run Tryz.prog (binOp .neq 33 (.pointer (some ⟨g, 0, none⟩)) (.pointer (some ⟨g, 0, none⟩))) w = .ok (.bool false) w := by
  obtain ⟨i, hi, hs⟩ := info92
  have h : ∀ d : Nat, Sem.run Tryz.prog (Op.equalIn (d + 1) 33 (.pointer (some ⟨g, 0, none⟩)) (.pointer (some ⟨g, 0, none⟩))) w = .ok true w := fun d => by
    simp [Op.equalIn, run_underlying Tryz.underlying33, sizeOf, typeInfo, hi, run_sameAddr_same]
  simp only [binOp]
  simp [Op.equal, Op.maxDepth, h 9999]
theorem neq33_other (t g : Nat) (w : World) (hne : t ≠ g) {ca cb : Array Value} {ta tb : TypeId} (ha : w.heap[t]? = some (.cells ca ta (0, 0))) (hb : w.heap[g]? = some (.cells cb tb (0, 0))) :
    Sem.run Tryz.prog (binOp .neq 33 (.pointer (some ⟨t, 0, none⟩)) (.pointer (some ⟨g, 0, none⟩))) w = .ok (.bool true) w := by
  obtain ⟨i, hi, hs⟩ := info92
  have h : ∀ d : Nat, Sem.run Tryz.prog (Op.equalIn (d + 1) 33 (.pointer (some ⟨t, 0, none⟩)) (.pointer (some ⟨g, 0, none⟩))) w = .ok false w := fun d => by
    simp [Op.equalIn, run_underlying Tryz.underlying33, sizeOf, typeInfo, hi, hs, run_sameAddr_other w (a := ⟨t, 0, none⟩) (b := ⟨g, 0, none⟩) (by intro e; exact hne (congrArg Addr.block e)) ha hb]
  simp only [binOp]
  simp [Op.equal, Op.maxDepth, h 9999]
def TabIn (w : World) (S : Sto) : Prop := ∀ t, S.tab = some t → ∃ V, Row w t 81 92 V
set_option maxRecDepth 100000 in
set_option maxHeartbeats 4000000 in
theorem over_any (g sx : Nat) (H : Nat → Hd) (S : Sto) (w : World) (h : TabP w g sx H) (hs : StoP w sx S) (ht : TabIn w S) :
    Calls Tryz.prog 36 #[ptr g] w fun e w' => e = .returned (.bool (decide (S.tab ≠ some g))) ∧ w' = w := by
  have c0 := h.sto
  have c1 := hs.tabAt
  unfold ptr at c0 ⊢
  cases e : S.tab with
  | none =>
    rw [e] at c1
    unfold ptrO at c1
    have hn : Sem.run Tryz.prog (binOp .neq 33 (.pointer none) (.pointer (some ⟨g, 0, none⟩))) w = .ok (.bool true) w := by
      have h : ∀ d : Nat, Sem.run Tryz.prog (Op.equalIn (d + 1) 33 (.pointer none) (.pointer (some ⟨g, 0, none⟩))) w = .ok false w := fun d => by
        simp [Op.equalIn, run_underlying Tryz.underlying33]
      simp only [binOp]
      simp [Op.equal, Op.maxDepth, h 9999]
    go_enter Tryz.func36, Tryz.ntmps36
    go_wp2
    go_ret
    exact ⟨rfl, rfl⟩
  | some t =>
    rw [e] at c1
    unfold ptrO at c1
    by_cases e2 : t = g
    · subst e2
      have hn := neq33_same t w
      rw [decide_eq_false (by simp)]
      go_enter Tryz.func36, Tryz.ntmps36
      go_wp2
      go_ret
      exact ⟨rfl, rfl⟩
    · obtain ⟨V, hV⟩ := ht t e
      have hn := neq33_other t g w e2 hV h
      rw [decide_eq_true (by simp; exact e2)]
      go_enter Tryz.func36, Tryz.ntmps36
      go_wp2
      go_ret
      exact ⟨rfl, rfl⟩
end Go.Proofs.YtgalgjmhdbncbaaGreat
namespace Go.Proofs.YtgalgjmhdbncbaaGreat
open Go.RowKit
attribute [local go_sem ↓] Go.wp_at_zero Go.wp_at_succ

theorem hdA_of (h : Hd) : hdA h = #[.int .i64 h.c.st, .int .i64 h.c.alg, .int .i64 h.c.id, .string h.c.fix, .int .i64 h.c.seals, .int .i64 h.c.ahead, .int .i64 h.c.most, .int .i64 h.c.res, .string h.c.key, .int .i64 h.ctr] := rfl
theorem stN_hd' (a b c : Int) (f : ByteArray) (d e x h : Int) (k : ByteArray) (m : Int) (g : Nat) (w : World) (r : Result Unit) :
    stN (some (.cells zhdA 89 (0, 0))) 10 (.agg #[.int .i64 a, .int .i64 b, .int .i64 c, .string f, .int .i64 d, .int .i64 e, .int .i64 x, .int .i64 h, .string k, .int .i64 m]) g w r
      = .ok () (w.setRow g #[.int .i64 a, .int .i64 b, .int .i64 c, .string f, .int .i64 d, .int .i64 e, .int .i64 x, .int .i64 h, .string k, .int .i64 m]) := by
  unfold stN
  exact if_pos ⟨rfl, rfl, rfl, by simp [Value.oneCell']⟩
attribute [local go_sem ↓] al89 stw89 al87 stw87
attribute [local go_sem] run_al89 run_stT89 stN_hd' run_al87 run_stT87 stN_cl blk_new blk_at blk_old blk_drew blk_setCell blk_setRow alloc_setRow
set_option maxRecDepth 100000 in
set_option maxHeartbeats 4000000 in
theorem hof_any (c : Cl) (w : World) : Calls Tryz.prog 35 #[.agg (clA c)] w fun e w' => e = .returned (.agg (hdA ⟨c, c.res⟩)) ∧ Below w.heap.size w w' := by
  unfold clA clC
  go_enter Tryz.func35, Tryz.ntmps35
  go_wp2
  have hh : ((w.alloc (.cells (clA c) 87)).alloc (.cells (hdA ⟨c, c.res⟩) 89)).heap[w.heap.size + 1]? = some (.cells (hdA ⟨c, c.res⟩) 89 (0, 0)) := heap_of_new _ _ _ (by simp)
  unfold hdA clA clC at hh
  refine bodyPost_ret (results_cell_row Tryz.results35 _ _ (w.heap.size + 1) 89 (hdA ⟨c, c.res⟩) (0, 0) _ rfl ?_ Tryz.underlying89 rfl (by kernel_rfl)) rfl ⟨rfl, ?_⟩
  · first | exact hh | exact setRow_heap _ _ _ _ 89 _ (heap_of_new _ _ _ (by simp))
  · first | exact ((Below.refl _ w).alloc (Nat.le_refl _) _).alloc (by simp) _ | exact Below.setRow (((Below.refl _ w).alloc (Nat.le_refl _) _).alloc (by simp) _) (by omega) _
structure HdAt (w : World) (g o : Nat) (h : Hd) : Prop where
  c0 : w.cell? ⟨g, o, none⟩ = some (.int .i64 h.c.st)
  c1 : w.cell? ⟨g, o + 1, none⟩ = some (.int .i64 h.c.alg)
  c2 : w.cell? ⟨g, o + 2, none⟩ = some (.int .i64 h.c.id)
  c3 : w.cell? ⟨g, o + 3, none⟩ = some (.string h.c.fix)
  c4 : w.cell? ⟨g, o + 4, none⟩ = some (.int .i64 h.c.seals)
  c5 : w.cell? ⟨g, o + 5, none⟩ = some (.int .i64 h.c.ahead)
  c6 : w.cell? ⟨g, o + 6, none⟩ = some (.int .i64 h.c.most)
  c7 : w.cell? ⟨g, o + 7, none⟩ = some (.int .i64 h.c.res)
  c8 : w.cell? ⟨g, o + 8, none⟩ = some (.string h.c.key)
  c9 : w.cell? ⟨g, o + 9, none⟩ = some (.int .i64 h.ctr)
theorem TabP.hd {w : World} {g sx : Nat} {H : Nat → Hd} (h : TabP w g sx H) (i : Nat) (hi : i < 8) : HdAt w g (1 + i * 10) (H i) :=
  ⟨h.at i 0 hi (by omega), h.at i 1 hi (by omega), h.at i 2 hi (by omega), h.at i 3 hi (by omega), h.at i 4 hi (by omega), h.at i 5 hi (by omega), h.at i 6 hi (by omega), h.at i 7 hi (by omega), h.at i 8 hi (by omega), h.at i 9 hi (by omega)⟩
set_option maxRecDepth 100000 in
set_option maxHeartbeats 4000000 in
theorem spent_any (g o : Nat) (h : Hd) (w : World) (ha : HdAt w g o h) : Calls Tryz.prog 39 #[.pointer (some ⟨g, o, none⟩)] w fun e w' => e = .returned (.bool (decide (h.ctr = h.c.seals))) ∧ Below w.heap.size w w' := by
  have c4 := ha.c4
  have c9 := ha.c9
  have e : decide (h.ctr = h.c.seals) = ((h.ctr : Int) == (h.c.seals : Int)) := by rw [Bool.eq_iff_iff, beq_iff_eq, decide_eq_true_iff]; omega
  rw [e]
  clear e ha
  go_enter Tryz.func39, Tryz.ntmps39
  go_wp2_with fail
  go_region
  go_wp2
  go_ret
  exact ⟨rfl, (Below.refl _ _).drew⟩
set_option maxRecDepth 100000 in
set_option maxHeartbeats 4000000 in
theorem short_any (g o : Nat) (h : Hd) (w : World) (ha : HdAt w g o h) : Calls Tryz.prog 40 #[.pointer (some ⟨g, o, none⟩)] w fun e w' => e = .returned (.bool (decide (h.ctr = h.c.res))) ∧ Below w.heap.size w w' := by
  have c4 := ha.c7
  have c9 := ha.c9
  have e : decide (h.ctr = h.c.res) = ((h.ctr : Int) == (h.c.res : Int)) := by rw [Bool.eq_iff_iff, beq_iff_eq, decide_eq_true_iff]; omega
  rw [e]
  clear e ha
  go_enter Tryz.func40, Tryz.ntmps40
  go_wp2_with fail
  go_region
  go_wp2
  go_ret
  exact ⟨rfl, (Below.refl _ _).drew⟩
def stA (a c r : Int) (t : Bool) : Array Value := #[.int .i64 a, .int .i64 c, .int .i64 r, .bool t]
theorem heap_four {w : World} {g : Nat} {a c r : Int} {t : Bool} (v0 v1 v2 v3 : Value) (h : w.heap[g]? = some (.cells (stA a c r t) 68 (0, 0))) :
    ((((w.setCell ⟨g, 0, none⟩ v0).setCell ⟨g, 1, none⟩ v1).setCell ⟨g, 2, none⟩ v2).setCell ⟨g, 3, none⟩ v3).heap[g]? = some (.cells #[v0, v1, v2, v3] 68 (0, 0)) := by
  have h0 := heap_setCell_same w g 0 _ 68 v0 h
  have h1 := heap_setCell_same _ g 1 _ 68 v1 h0
  have h2 := heap_setCell_same _ g 2 _ 68 v2 h1
  have h3 := heap_setCell_same _ g 3 _ 68 v3 h2
  simpa [stA] using h3
set_option maxRecDepth 100000 in
set_option maxHeartbeats 4000000 in
theorem hstatus_any (g o : Nat) (h : Hd) (w : World) (hg : g < w.heap.size) (ha : HdAt w g o h) : Calls Tryz.prog 53 #[.pointer (some ⟨g, o, none⟩)] w fun e w' => e = .returned (.agg (stA h.c.alg h.ctr h.c.res (decide (h.c.st = 2)))) ∧ Below w.heap.size w w' := by
  obtain ⟨c0, c1, c2, c3, c4, c5, c6, c7, c8, c9⟩ := ha
  have e : decide (h.c.st = 2) = ((h.c.st : Int) == 2) := by rw [Bool.eq_iff_iff, beq_iff_eq, decide_eq_true_iff]; omega
  rw [e]
  clear e c2 c3 c4 c5 c6 c8
  have k0 := (Below.refl w.heap.size w).alloc (Nat.le_refl _) (.cells (stA 0 0 0 false) 68)
  have hz : (w.alloc (.cells (stA 0 0 0 false) 68)).heap[w.heap.size]? = some (.cells (stA 0 0 0 false) 68 (0, 0)) := heap_of_new _ _ _ rfl
  rw [← k0.cell (p := ⟨g, o, none⟩) hg] at c0
  rw [← k0.cell (p := ⟨g, o + 1, none⟩) hg] at c1
  rw [← k0.cell (p := ⟨g, o + 7, none⟩) hg] at c7
  rw [← k0.cell (p := ⟨g, o + 9, none⟩) hg] at c9
  go_enter Tryz.func53, Tryz.ntmps53
  go_wp2_with fail
  suffices HH : ∀ W, W.cell? ⟨g, o, none⟩ = some (.int .i64 h.c.st) → W.cell? ⟨g, o + 1, none⟩ = some (.int .i64 h.c.alg) → W.cell? ⟨g, o + 7, none⟩ = some (.int .i64 h.c.res) → W.cell? ⟨g, o + 9, none⟩ = some (.int .i64 h.ctr) → W.heap[w.heap.size]? = some (.cells (stA 0 0 0 false) 68 (0, 0)) → Below w.heap.size w W → Code.wp Tryz.prog _ _ _ W from HH _ c0 c1 c7 c9 hz k0
  clear c0 c1 c7 c9 hz k0
  intro W c0 c1 c7 c9 hz hB
  have z0 : W.cell? ⟨w.heap.size, 0, none⟩ = some (.int .i64 0) := by rw [cell_of_row _ _ 0 _ _ _ hz]; rfl
  have z1 : W.cell? ⟨w.heap.size, 1, none⟩ = some (.int .i64 0) := by rw [cell_of_row _ _ 1 _ _ _ hz]; rfl
  have z2 : W.cell? ⟨w.heap.size, 2, none⟩ = some (.int .i64 0) := by rw [cell_of_row _ _ 2 _ _ _ hz]; rfl
  have z3 : W.cell? ⟨w.heap.size, 3, none⟩ = some (.bool false) := by rw [cell_of_row _ _ 3 _ _ _ hz]; rfl
  have f0 := fun j => frozen_of_row _ _ j _ _ hz
  go_region
  go_wp2
  refine bodyPost_ret (results_cell_row Tryz.results53 _ _ w.heap.size 68 _ (0, 0) _ rfl (heap_four _ _ _ _ hz) Tryz.underlying68 rfl (by kernel_rfl)) rfl ⟨rfl, ?_⟩
  exact ((((hB.setCell (Nat.le_refl _) _).setCell (Nat.le_refl _) _).setCell (Nat.le_refl _) _).setCell (Nat.le_refl _) _).drew
theorem cells4 {w : World} {g : Nat} {a c r : Int} {t : Bool} (h : w.heap[g]? = some (.cells (stA a c r t) 68 (0, 0))) : w.cell? ⟨g, 0, none⟩ = some (.int .i64 a) ∧ w.cell? ⟨g, 1, none⟩ = some (.int .i64 c) ∧ w.cell? ⟨g, 2, none⟩ = some (.int .i64 r) ∧ w.cell? ⟨g, 3, none⟩ = some (.bool t) := by
  refine ⟨?_, ?_, ?_, ?_⟩
  · rw [cell_of_row _ _ 0 _ _ _ h]; rfl
  · rw [cell_of_row _ _ 1 _ _ _ h]; rfl
  · rw [cell_of_row _ _ 2 _ _ _ h]; rfl
  · rw [cell_of_row _ _ 3 _ _ _ h]; rfl
theorem res68 {fn : Func} {p u : Tmp} (h : fn.results = #[.cell p 68, .tmp u]) (tmps : Array Value) (w : World) (g : Nat) (v0 v1 v2 v3 : Value) (v : Value)
    (hp : tmps.getD p undef = .pointer (some ⟨g, 0, none⟩)) (hv : tmps.getD u undef = v) (hg : w.heap[g]? = some (.cells #[v0, v1, v2, v3] 68 (0, 0))) : (results fn tmps).run Tryz.prog w = .ok (.tuple #[.agg #[v0, v1, v2, v3], v]) w := by
  have hp' : tmps[p]?.getD undef = .pointer (some ⟨g, 0, none⟩) := by simpa using hp
  have hv' : tmps[u]?.getD undef = v := by simpa using hv
  have hl := run_loadVar_row (P := Tryz.prog) w g 68 68 _ (0, 0) _ hg Tryz.underlying68 rfl (by kernel_rfl)
  simp [results, h, hp', hv', asAddr, hl]
set_option maxRecDepth 100000 in
set_option maxHeartbeats 4000000 in
theorem status_any (g sx : Nat) (H : Nat → Hd) (id : Int) (w : World) (h : TabP w g sx H) :
    Calls Tryz.prog 25 #[ptr g, .int .i64 id] w fun e w' => ((∃ i, i < 8 ∧ hit H id i ∧ (∀ j, j < i → ¬ hit H id j) ∧ e = .returned (.tuple #[.agg (stA (H i).c.alg (H i).ctr (H i).c.res (decide ((H i).c.st = 2))), .int .i64 0])) ∨ ((∀ j, j < 8 → ¬ hit H id j) ∧ e = .returned (.tuple #[.agg (stA 0 0 0 false), .int .i64 11]))) ∧ Below w.heap.size w w' := by
  have hf := fun w h => find_any g sx H id w h
  have hlt := Row.lt h
  unfold ptr at hf ⊢
  have HF : Hid _ := hf
  clear hf
  have h1 : TabP (w.alloc (.cells (stA 0 0 0 false) 68)) g sx H := Row.alloc h _
  have k0 := (Below.refl w.heap.size w).alloc (Nat.le_refl _) (.cells (stA 0 0 0 false) 68)
  have hz0 : (w.alloc (.cells (stA 0 0 0 false) 68)).heap[w.heap.size]? = some (.cells (stA 0 0 0 false) 68 (0, 0)) := heap_of_new _ _ _ rfl
  go_enter Tryz.func25, Tryz.ntmps25
  go_wp2_with fail
  refine (HF.out _ h1).mono ?_
  rintro e w1 ⟨⟨i, hi, hh, hm, rfl⟩ | ⟨hn, rfl⟩, b1⟩
  · have h2 : TabP w1 g sx H := Row.keep h1 b1 (Row.lt h1)
    have hz : w1.heap[w.heap.size]? = some (.cells (stA 0 0 0 false) 68 (0, 0)) := by rw [b1.block _ (by simp)]; exact hz0
    have B1 : Below w.heap.size w w1 := k0.trans (b1.mono (by simp))
    have hs := hstatus_any g (1 + i * 10) (H i) w1 (Row.lt h2) (h2.hd i hi)
    have HH : Hid _ := And.intro hi (And.intro hh hm)
    unfold stA at hs
    have HS : Hid _ := hs
    have y1 : w.heap.size < w1.heap.size := by have := b1.size; simp at this; omega
    clear hs hh hm h1 k0 hz0 b1
    go_wp2_with fail
    refine Calls.mono HS.out ?_
    rintro e w2 ⟨rfl, b2⟩
    have hz2 : w2.heap[w.heap.size]? = some (.cells (stA 0 0 0 false) 68 (0, 0)) := by rw [b2.block _ y1]; exact hz
    obtain ⟨z0, z1, z2, z3⟩ := cells4 hz2
    have f0 := fun j => frozen_of_row _ _ j _ _ hz2
    have B2 := B1.trans (b2.mono B1.size)
    clear HS hz
    go_wp2
    refine bodyPost_ret (res68 Tryz.results25 _ _ w.heap.size _ _ _ _ _ rfl rfl (heap_four _ _ _ _ hz2)) rfl ⟨.inl ⟨i, HH.out.1, HH.out.2.1, HH.out.2.2, rfl⟩, ?_⟩
    exact ((((B2.setCell (Nat.le_refl _) _).setCell (Nat.le_refl _) _).setCell (Nat.le_refl _) _).setCell (Nat.le_refl _) _)
  · have hz : w1.heap[w.heap.size]? = some (.cells (stA 0 0 0 false) 68 (0, 0)) := by rw [b1.block _ (by simp)]; exact hz0
    obtain ⟨z0, z1, z2, z3⟩ := cells4 hz
    have f0 := fun j => frozen_of_row _ _ j _ _ hz
    have B1 : Below w.heap.size w w1 := k0.trans (b1.mono (by simp))
    have HN : Hid _ := hn
    clear hn h1 k0 hz0 b1
    go_wp2
    refine bodyPost_ret (res68 Tryz.results25 _ _ w.heap.size _ _ _ _ _ rfl rfl (heap_four _ _ _ _ hz)) rfl ⟨.inr ⟨HN.out, rfl⟩, ?_⟩
    exact ((((B1.setCell (Nat.le_refl _) _).setCell (Nat.le_refl _) _).setCell (Nat.le_refl _) _).setCell (Nat.le_refl _) _)
end Go.Proofs.YtgalgjmhdbncbaaGreat
namespace Go.Proofs.YtgalgjmhdbncbaaGreat
open Go.RowKit
attribute [local go_sem ↓] Go.wp_at_zero Go.wp_at_succ

def cellT (c : Cl) : ByteArray := (str 15 fun j => if j = 14 then UInt8.ofNat c.st else rF c 6 j) ++ c.key
theorem cellT_size (c : Cl) : (cellT c).size = 15 + c.key.size := by unfold cellT; rw [ByteArray.size_append, str_size]
theorem ctext_any (c : Cl) (h : ClOk c) (w : World) : Calls Tryz.prog 74 #[.agg (clA c)] w fun e w' => e = .returned (.string (cellT c)) ∧ Below w.heap.size w w' :=
  text_run c h.sm (by have := h.st; omega) w
def upd (H : Nat → Hd) (i : Nat) (c : Cl) (j : Nat) : Hd := if j = i then ⟨c, (H i).ctr⟩ else H j
structure PS (W : World) (g sx gb : Nat) (c : Cl) : Prop where
  sp : W.cell? ⟨g, 0, none⟩ = some (ptr sx)
  cr : W.heap[gb]? = some (.cells #[.int .i64 c.st, .int .i64 c.alg, .int .i64 c.id, .string c.fix, .int .i64 c.seals, .int .i64 c.ahead, .int .i64 c.most, .int .i64 c.res, .string c.key] 87 (0, 0))
theorem PS.drew {W : World} {g sx gb : Nat} {c : Cl} (h : PS W g sx gb c) : PS W.drew g sx gb c := ⟨h.sp, h.cr⟩
theorem PS.keep {W W' : World} {g sx gb B : Nat} {c : Cl} (h : PS W g sx gb c) (hb : Below B W W') (h1 : g < B) (h2 : gb < B) : PS W' g sx gb c := ⟨by rw [hb.cell (p := ⟨g, 0, none⟩) h1]; exact h.sp, by rw [hb.block _ h2]; exact h.cr⟩
theorem tab_set9 {w : World} {g sx : Nat} {H : Nat → Hd} (h : TabP w g sx H) (i : Nat) (c : Cl) :
    TabP (((((((((w.setCell ⟨g, 1 + i * 10, none⟩ (.int .i64 c.st)).setCell ⟨g, 1 + i * 10 + 1, none⟩ (.int .i64 c.alg)).setCell ⟨g, 1 + i * 10 + 2, none⟩ (.int .i64 c.id)).setCell ⟨g, 1 + i * 10 + 3, none⟩ (.string c.fix)).setCell ⟨g, 1 + i * 10 + 4, none⟩ (.int .i64 c.seals)).setCell ⟨g, 1 + i * 10 + 5, none⟩ (.int .i64 c.ahead)).setCell ⟨g, 1 + i * 10 + 6, none⟩ (.int .i64 c.most)).setCell ⟨g, 1 + i * 10 + 7, none⟩ (.int .i64 c.res)).setCell ⟨g, 1 + i * 10 + 8, none⟩ (.string c.key)) g sx (upd H i c) := by
  refine Row.congr (Row.set (Row.set (Row.set (Row.set (Row.set (Row.set (Row.set (Row.set (Row.set h _ _) _ _) _ _) _ _) _ _) _ _) _ _) _ _) _ _) (fun j hj => ?_)
  unfold tabF upd
  by_cases h0 : j = 0
  · subst h0
    simp
    omega
  · obtain ⟨q, r, hr, rfl⟩ : ∃ q r, r < 10 ∧ j = 1 + q * 10 + r := ⟨(j - 1) / 10, (j - 1) % 10, by omega, by omega⟩
    rw [if_neg h0, show (1 + q * 10 + r - 1) / 10 = q by omega, show (1 + q * 10 + r - 1) % 10 = r by omega]
    by_cases hq : q = i
    · subst hq
      rw [if_pos rfl]
      rcases (by omega : r = 0 ∨ r = 1 ∨ r = 2 ∨ r = 3 ∨ r = 4 ∨ r = 5 ∨ r = 6 ∨ r = 7 ∨ r = 8 ∨ r = 9) with rfl | rfl | rfl | rfl | rfl | rfl | rfl | rfl | rfl | rfl <;> simp [hdF, clF]
    · rw [if_neg hq, if_neg (by omega), if_neg (by omega), if_neg (by omega), if_neg (by omega), if_neg (by omega), if_neg (by omega), if_neg (by omega), if_neg (by omega), if_neg (by omega), if_neg h0]
theorem row_set9 {w : World} {g x n : Nat} {t : TypeId} {V : Nat → Value} (h : Row w x n t V) (hx : x ≠ g) (i : Nat) (c : Cl) : Row (((((((((w.setCell ⟨g, 1 + i * 10, none⟩ (.int .i64 c.st)).setCell ⟨g, 1 + i * 10 + 1, none⟩ (.int .i64 c.alg)).setCell ⟨g, 1 + i * 10 + 2, none⟩ (.int .i64 c.id)).setCell ⟨g, 1 + i * 10 + 3, none⟩ (.string c.fix)).setCell ⟨g, 1 + i * 10 + 4, none⟩ (.int .i64 c.seals)).setCell ⟨g, 1 + i * 10 + 5, none⟩ (.int .i64 c.ahead)).setCell ⟨g, 1 + i * 10 + 6, none⟩ (.int .i64 c.most)).setCell ⟨g, 1 + i * 10 + 7, none⟩ (.int .i64 c.res)).setCell ⟨g, 1 + i * 10 + 8, none⟩ (.string c.key)) x n t V :=
  Row.other (Row.other (Row.other (Row.other (Row.other (Row.other (Row.other (Row.other (Row.other h hx) hx) hx) hx) hx) hx) hx) hx) hx
theorem fr_set9 {w0 w : World} {g : Nat} {L : List Nat} (h : Fr L w0 w) (hg : g ∈ L) (i : Nat) (c : Cl) : Fr L w0 (((((((((w.setCell ⟨g, 1 + i * 10, none⟩ (.int .i64 c.st)).setCell ⟨g, 1 + i * 10 + 1, none⟩ (.int .i64 c.alg)).setCell ⟨g, 1 + i * 10 + 2, none⟩ (.int .i64 c.id)).setCell ⟨g, 1 + i * 10 + 3, none⟩ (.string c.fix)).setCell ⟨g, 1 + i * 10 + 4, none⟩ (.int .i64 c.seals)).setCell ⟨g, 1 + i * 10 + 5, none⟩ (.int .i64 c.ahead)).setCell ⟨g, 1 + i * 10 + 6, none⟩ (.int .i64 c.most)).setCell ⟨g, 1 + i * 10 + 7, none⟩ (.int .i64 c.res)).setCell ⟨g, 1 + i * 10 + 8, none⟩ (.string c.key)) :=
  Fr.setCell (Fr.setCell (Fr.setCell (Fr.setCell (Fr.setCell (Fr.setCell (Fr.setCell (Fr.setCell (Fr.setCell h (.inr hg) _) (.inr hg) _) (.inr hg) _) (.inr hg) _) (.inr hg) _) (.inr hg) _) (.inr hg) _) (.inr hg) _) (.inr hg) _
theorem StoP.putTab {w : World} {g : Nat} {S : Sto} (h : StoP w g S) : StoP (w.setCell ⟨g, 10, none⟩ (.pointer none)) g { S with tab := none } := StoP.setTab h none
def putS (S : Sto) (i : Nat) (c : Cl) : Sto := if S.left = 1 then { wroteM S i (cellT c) with tab := none } else wroteM S i (cellT c)
def putH (S : Sto) (H : Nat → Hd) (i : Nat) (c : Cl) : Nat → Hd := if S.left = 1 then H else upd H i c
set_option maxRecDepth 100000 in
set_option maxHeartbeats 4000000 in
theorem put_down (g sx : Nat) (H : Nat → Hd) (S : Sto) (i : Nat) (c : Cl) (hi : i < 8) (hc : ClOk c) (hl : S.left ≤ 9223372036854775807) (h1 : S.left = 1) (w : World) (h : TabP w g sx H) (hs : StoP w sx S) :
    Calls Tryz.prog 41 #[ptr g, .int .i64 i, .agg (clA c)] w fun e w' => e = .returned (.int .i64 8) ∧ StoP w' sx { wroteM S i (cellT c) with tab := none } ∧ TabP w' g sx H ∧ Fr [g, sx] w w' := by
  have hne : g ≠ sx := Row.ne h hs (by decide)
  have hz := cellT_size c
  have hk := hc.sm.key
  have hkey := hc.key
  have hw := fun w h' => write_any sx S i (cellT c) hl w h'
  have hin : inCell (i : Int) = true := by simp [inCell]; omega
  have hwm : writeM S i (cellT c) = if S.left = 1 then 8 else 0 := by
    have : (cellT c).size ≤ 64 := by
      rw [hz, hkey]
      have := hc.alg
      split <;> omega
    unfold writeM
    rw [if_neg (by rw [hin]; decide), if_neg (by omega)]
  rw [hwm, if_pos h1] at hw
  have ht := fun w => ctext_any c hc w
  have hlt := Row.lt h
  have hls := Row.lt hs
  unfold ptr at hw ⊢
  unfold clA clC at ht
  have HT : Hid _ := ht
  have HW : Hid _ := hw
  have T1 : TabP (w.alloc (.cells (clA c) 87)) g sx H := Row.alloc h _
  have S1 : StoP (w.alloc (.cells (clA c) 87)) sx S := Row.alloc hs _
  have X0 : PS (w.alloc (.cells (clA c) 87)) g sx w.heap.size c := ⟨T1.sto, heap_of_new _ _ _ rfl⟩
  have F1 : Fr [g, sx] w (w.alloc (.cells (clA c) 87)) := (Fr.refl _ _).alloc _
  clear ht hw hz hk hkey hwm hin hc
  unfold clA clC
  go_enter Tryz.func41, Tryz.ntmps41
  go_wp2_with fail
  suffices HH : ∀ w1, PS w1 g sx w.heap.size c → TabP w1 g sx H → StoP w1 sx S → Fr [g, sx] w w1 → w.heap.size < w1.heap.size → Code.wp Tryz.prog _ _ _ w1 from HH _ X0 T1 S1 F1 (by simp)
  clear X0 T1 S1 F1
  intro w1 X0 T1 S1 F1 y1
  have HTb : Hid _ := T1
  have HP : Hid _ := S1
  have HF : Hid _ := F1
  clear T1 S1 F1
  refine wp_region_held_drew (S := fun W' => PS W' g sx w.heap.size c) (by kernel_rfl) X0.drew (fun hHeld => ?_)
  refine tk 0 ?v1 ?y1 ?r1
  case y1 => (intro W' hW; go_simp; try with_reducible rfl)
  refine tk 1 ?v2 ?y2 ?r2
  case y2 => (intro W' hW; go_simp; try with_reducible rfl)
  refine tk 2 ?v3 ?y3 ?r3
  case y3 => (intro W' hW; go_simp; try with_reducible rfl)
  refine tk 3 ?v4 ?y4 ?r4
  case y4 => (intro W' hW; have hp := hW.sp; unfold ptr at hp; go_simp; try with_reducible rfl)
  refine tk 4 ?v5 ?y5 ?r5
  case y5 => (intro W' hW; go_simp; try with_reducible rfl)
  refine tk 5 ?v6 ?y6 ?r6
  case y6 => (intro W' hW; obtain ⟨c0, c1, c2, c3, c4, c5, c6, c7, c8⟩ := cells9 hW.cr; go_simp; try with_reducible rfl)
  try simp only [Act.put, List.getElem_toArray, List.getElem_cons_zero, List.getElem_cons_succ, List.setIfInBounds_toArray, List.set_cons_zero, List.set_cons_succ]
  refine wpAnyH_ready (rs := [6]) (by kernel_rfl) (by simp) ?_
  refine AllReadyH.cons rfl (fun K hK => ?_) ?nil6
  case nil6 => exact AllReadyH.nil
  go_simp
  refine (HT.out _).mono ?_
  rintro e wa ⟨rfl, ba⟩
  have Xa := PS.keep X0.drew ba (by show _ < w1.heap.size; omega) (by show _ < w1.heap.size; omega)
  have Sa : StoP wa sx S := Row.keep (Row.drew HP.out) ba (by show _ < w1.heap.size; omega)
  have Ta : TabP wa g sx H := Row.keep (Row.drew HTb.out) ba (by show _ < w1.heap.size; omega)
  have Fa : Fr [g, sx] w wa := (HF.out.drew).trans (Fr.of_below _ ba (Nat.le_refl _))
  go_wp2_with fail
  refine hK.out _ _ Xa (fun hHeld => ?_)
  clear hK K
  refine wpAnyH_ready (rs := [7]) (by kernel_rfl) (by simp) ?_
  refine AllReadyH.cons rfl (fun K hK => ?_) ?nil7
  case nil7 => exact AllReadyH.nil
  go_simp
  refine (HW.out _ Sa).mono ?_
  rintro e wb ⟨rfl, Sb, cb⟩
  have Xb : PS wb g sx w.heap.size c := ⟨by rw [World.cell?_of_block (w := wa) (cb.block g hne)]; exact Xa.sp, by rw [cb.block _ (by omega)]; exact Xa.cr⟩
  have Tb : TabP wb g sx H := Row.chg Ta cb hne
  have Fb := Fa.trans (Fr.of_chg cb (by simp))
  go_wp2_with fail
  refine hK.out _ _ Xb (fun hHeld => ?_)
  clear hK K
  refine tk 8 ?v7 ?y7 ?r7
  case y7 => (intro W' hW; go_simp; try with_reducible rfl)
  try simp only [Act.put, List.getElem_toArray, List.getElem_cons_zero, List.getElem_cons_succ, List.setIfInBounds_toArray, List.set_cons_zero, List.set_cons_succ]
  refine wpAnyH_done (by kernel_rfl) ?_ _
  clear X0 HTb HP HF HT HW Xa Sa Ta Fa
  have b0 := Xb.sp
  unfold ptr at b0
  have s10 := StoP.tabAt Sb
  have f10 := Row.frozen Sb 10
  have Sc := StoP.putTab Sb
  have Fc := Fr.setCell Fb (a := ⟨sx, 10, none⟩) (.inr (by simp)) (.pointer none)
  have Tc := Row.other Tb (g' := sx) (k := 10) (v := .pointer none) hne
  go_wp2
  go_ret
  exact ⟨rfl, Sc, Tc, Fc⟩
set_option maxRecDepth 100000 in
set_option maxHeartbeats 4000000 in
theorem put_okay (g sx : Nat) (H : Nat → Hd) (S : Sto) (i : Nat) (c : Cl) (hi : i < 8) (hc : ClOk c) (hl : S.left ≤ 9223372036854775807) (h1 : S.left ≠ 1) (w : World) (h : TabP w g sx H) (hs : StoP w sx S) :
    Calls Tryz.prog 41 #[ptr g, .int .i64 i, .agg (clA c)] w fun e w' => e = .returned (.int .i64 0) ∧ StoP w' sx (wroteM S i (cellT c)) ∧ TabP w' g sx (upd H i c) ∧ Fr [g, sx] w w' := by
  have hne : g ≠ sx := Row.ne h hs (by decide)
  have hz := cellT_size c
  have hk := hc.sm.key
  have hkey := hc.key
  have hw := fun w h' => write_any sx S i (cellT c) hl w h'
  have hin : inCell (i : Int) = true := by simp [inCell]; omega
  have hwm : writeM S i (cellT c) = if S.left = 1 then 8 else 0 := by
    have : (cellT c).size ≤ 64 := by
      rw [hz, hkey]
      have := hc.alg
      split <;> omega
    unfold writeM
    rw [if_neg (by rw [hin]; decide), if_neg (by omega)]
  rw [hwm, if_neg h1] at hw
  have ht := fun w => ctext_any c hc w
  have hlt := Row.lt h
  have hls := Row.lt hs
  unfold ptr at hw ⊢
  unfold clA clC at ht
  have HT : Hid _ := ht
  have HW : Hid _ := hw
  have T1 : TabP (w.alloc (.cells (clA c) 87)) g sx H := Row.alloc h _
  have S1 : StoP (w.alloc (.cells (clA c) 87)) sx S := Row.alloc hs _
  have X0 : PS (w.alloc (.cells (clA c) 87)) g sx w.heap.size c := ⟨T1.sto, heap_of_new _ _ _ rfl⟩
  have F1 : Fr [g, sx] w (w.alloc (.cells (clA c) 87)) := (Fr.refl _ _).alloc _
  clear ht hw hz hk hkey hwm hin hc
  unfold clA clC
  go_enter Tryz.func41, Tryz.ntmps41
  go_wp2_with fail
  suffices HH : ∀ w1, PS w1 g sx w.heap.size c → TabP w1 g sx H → StoP w1 sx S → Fr [g, sx] w w1 → w.heap.size < w1.heap.size → Code.wp Tryz.prog _ _ _ w1 from HH _ X0 T1 S1 F1 (by simp)
  clear X0 T1 S1 F1
  intro w1 X0 T1 S1 F1 y1
  have HTb : Hid _ := T1
  have HP : Hid _ := S1
  have HF : Hid _ := F1
  clear T1 S1 F1
  refine wp_region_held_drew (S := fun W' => PS W' g sx w.heap.size c) (by kernel_rfl) X0.drew (fun hHeld => ?_)
  refine tk 0 ?v1 ?y1 ?r1
  case y1 => (intro W' hW; go_simp; try with_reducible rfl)
  refine tk 1 ?v2 ?y2 ?r2
  case y2 => (intro W' hW; go_simp; try with_reducible rfl)
  refine tk 2 ?v3 ?y3 ?r3
  case y3 => (intro W' hW; go_simp; try with_reducible rfl)
  refine tk 3 ?v4 ?y4 ?r4
  case y4 => (intro W' hW; have hp := hW.sp; unfold ptr at hp; go_simp; try with_reducible rfl)
  refine tk 4 ?v5 ?y5 ?r5
  case y5 => (intro W' hW; go_simp; try with_reducible rfl)
  refine tk 5 ?v6 ?y6 ?r6
  case y6 => (intro W' hW; obtain ⟨c0, c1, c2, c3, c4, c5, c6, c7, c8⟩ := cells9 hW.cr; go_simp; try with_reducible rfl)
  try simp only [Act.put, List.getElem_toArray, List.getElem_cons_zero, List.getElem_cons_succ, List.setIfInBounds_toArray, List.set_cons_zero, List.set_cons_succ]
  refine wpAnyH_ready (rs := [6]) (by kernel_rfl) (by simp) ?_
  refine AllReadyH.cons rfl (fun K hK => ?_) ?nil6
  case nil6 => exact AllReadyH.nil
  go_simp
  refine (HT.out _).mono ?_
  rintro e wa ⟨rfl, ba⟩
  have Xa := PS.keep X0.drew ba (by show _ < w1.heap.size; omega) (by show _ < w1.heap.size; omega)
  have Sa : StoP wa sx S := Row.keep (Row.drew HP.out) ba (by show _ < w1.heap.size; omega)
  have Ta : TabP wa g sx H := Row.keep (Row.drew HTb.out) ba (by show _ < w1.heap.size; omega)
  have Fa : Fr [g, sx] w wa := (HF.out.drew).trans (Fr.of_below _ ba (Nat.le_refl _))
  go_wp2_with fail
  refine hK.out _ _ Xa (fun hHeld => ?_)
  clear hK K
  refine wpAnyH_ready (rs := [7]) (by kernel_rfl) (by simp) ?_
  refine AllReadyH.cons rfl (fun K hK => ?_) ?nil7
  case nil7 => exact AllReadyH.nil
  go_simp
  refine (HW.out _ Sa).mono ?_
  rintro e wb ⟨rfl, Sb, cb⟩
  have Xb : PS wb g sx w.heap.size c := ⟨by rw [World.cell?_of_block (w := wa) (cb.block g hne)]; exact Xa.sp, by rw [cb.block _ (by omega)]; exact Xa.cr⟩
  have Tb : TabP wb g sx H := Row.chg Ta cb hne
  have Fb := Fa.trans (Fr.of_chg cb (by simp))
  go_wp2_with fail
  refine hK.out _ _ Xb (fun hHeld => ?_)
  clear hK K
  refine tk 8 ?v7 ?y7 ?r7
  case y7 => (intro W' hW; go_simp; try with_reducible rfl)
  try simp only [Act.put, List.getElem_toArray, List.getElem_cons_zero, List.getElem_cons_succ, List.setIfInBounds_toArray, List.set_cons_zero, List.set_cons_succ]
  refine wpAnyH_done (by kernel_rfl) ?_ _
  clear X0 HTb HP HF HT HW Xa Sa Ta Fa
  have b0 := Xb.sp
  unfold ptr at b0
  obtain ⟨c0, c1, c2, c3, c4, c5, c6, c7, c8⟩ := cells9 Xb.cr
  have hA := Tb.hd i hi
  obtain ⟨d0, d1, d2, d3, d4, d5, d6, d7, d8, d9⟩ := hA
  have ff := fun j => Row.frozen Tb j
  go_wp2_with fail
  go_region
  go_wp2
  go_ret
  exact ⟨rfl, Row.drew (row_set9 Sb (fun e => hne e.symm) i c), Row.drew (tab_set9 Tb i c), Fr.drew (fr_set9 Fb (by simp) i c)⟩
end Go.Proofs.YtgalgjmhdbncbaaGreat
namespace Go.Proofs.YtgalgjmhdbncbaaGreat
open Go.RowKit
attribute [local go_sem ↓] Go.wp_at_zero Go.wp_at_succ

def putP (S : Sto) (H : Nat → Hd) (i : Nat) (c : Cl) (e : Int) (S' : Sto) (H' : Nat → Hd) : Prop :=
  (S.left = 1 ∧ e = 8 ∧ S' = { wroteM S i (cellT c) with tab := none } ∧ H' = H) ∨ (S.left ≠ 1 ∧ e = 0 ∧ S' = wroteM S i (cellT c) ∧ H' = upd H i c)
theorem putt_any (g sx : Nat) (H : Nat → Hd) (S : Sto) (i : Nat) (c : Cl) (hi : i < 8) (hc : ClOk c) (hl : S.left ≤ 9223372036854775807) (w : World) (h : TabP w g sx H) (hs : StoP w sx S) :
    Calls Tryz.prog 41 #[ptr g, .int .i64 i, .agg (clA c)] w fun e w' => ∃ (r : Int) (S' : Sto) (H' : Nat → Hd), e = .returned (.int .i64 r) ∧ putP S H i c r S' H' ∧ StoP w' sx S' ∧ TabP w' g sx H' ∧ Fr [g, sx] w w' := by
  by_cases h1 : S.left = 1
  · refine Calls.mono (put_down g sx H S i c hi hc hl h1 w h hs) ?_
    rintro e w' ⟨rfl, a, b, d⟩
    exact ⟨8, _, _, rfl, .inl ⟨h1, rfl, rfl, rfl⟩, a, b, d⟩
  · refine Calls.mono (put_okay g sx H S i c hi hc hl h1 w h hs) ?_
    rintro e w' ⟨rfl, a, b, d⟩
    exact ⟨0, _, _, rfl, .inr ⟨h1, rfl, rfl, rfl⟩, a, b, d⟩
def TOk (H : Nat → Hd) : Prop := ∀ i, i < 8 → (H i).c.st ≠ 0 → ClOk (H i).c
theorem ClOk.retire {c : Cl} (h : ClOk c) : ClOk c.retiring := ⟨.inr rfl, h.alg, h.id, h.fix, h.cfg, h.res, rfl⟩
theorem ClOk.reserve {c : Cl} (h : ClOk c) : ClOk c.reserving := ⟨h.st, h.alg, h.id, h.fix, h.cfg, Nat.min_le_right _ _, h.key⟩
def retireP (g : Nat) (S : Sto) (H : Nat → Hd) (id e : Int) (S' : Sto) (H' : Nat → Hd) : Prop :=
  (S.tab ≠ some g ∧ e = 10 ∧ S' = S ∧ H' = H) ∨
  (S.tab = some g ∧ ∃ (i : Nat) (c : Int), liveP H id i c ∧ ((c ≠ 0 ∧ e = c ∧ S' = S ∧ H' = H) ∨ (c = 0 ∧ putP S H i (H i).c.retiring e S' H')))
set_option maxRecDepth 100000 in
set_option maxHeartbeats 4000000 in
theorem retire_any (g sx : Nat) (H : Nat → Hd) (S : Sto) (id : Int) (hH : TOk H) (hl : S.left ≤ 9223372036854775807) (w : World) (h : TabP w g sx H) (hs : StoP w sx S) (ht : TabIn w S) :
    Calls Tryz.prog 46 #[ptr g, .int .i64 id] w fun e w' => ∃ (r : Int) (S' : Sto) (H' : Nat → Hd), e = .returned (.int .i64 r) ∧ retireP g S H id r S' H' ∧ StoP w' sx S' ∧ TabP w' g sx H' ∧ Fr [g, sx] w w' := by
  have ho := fun w h hs ht => over_any g sx H S w h hs ht
  have hv := fun w h => live_any g sx H id w h
  have hp := fun i c hi hc w h hs => putt_any g sx H S i c hi hc hl w h hs
  have hr := fun c w => retiring_any c w
  unfold ptr at ho hv hp ⊢
  have HO : Hid _ := ho
  have HV : Hid _ := hv
  have HP : Hid _ := hp
  have HR : Hid _ := hr
  have HT : Hid _ := ht
  have HTO : Hid _ := hH
  clear ho hv hp hr ht hH
  by_cases hov : S.tab = some g
  · rw [decide_eq_false (by simpa using hov)] at HO
    go_enter Tryz.func46, Tryz.ntmps46
    go_wp2_with fail
    refine (HO.out _ h hs HT.out).mono ?_
    rintro e w1 ⟨rfl, hw⟩
    rw [hw]
    go_wp2_with fail
    refine (HV.out _ h).mono ?_
    rintro e w2 ⟨⟨i, c, hL, rfl⟩, b2⟩
    have F2 : Fr [g, sx] w w2 := Fr.of_below _ b2 (Nat.le_refl _)
    have T2 : TabP w2 g sx H := Row.keep h b2 (Row.lt h)
    have S2 : StoP w2 sx S := Row.keep hs b2 (Row.lt hs)
    by_cases hc0 : c = 0
    · subst hc0
      have HL : Hid (liveP H id i 0) := hL
      have hi8 : i < 8 ∧ hit H id i := by
        rcases hL with ⟨a, b, _⟩ | ⟨_, _, h⟩ | ⟨_, _, h⟩
        · exact ⟨a, b⟩
        · simp at h
        · simp at h
      have hck := (HTO.out i hi8.1 hi8.2.1).retire
      have hi := hi8.1
      obtain ⟨d0, d1, d2, d3, d4, d5, d6, d7, d8, d9⟩ := T2.hd i hi
      have hr2 := HR.out (H i).c
      unfold clA clC at hr2
      have HR2 : Hid _ := hr2
      have HCK : Hid _ := hck
      clear hr2 hL hi8 hck HR
      go_wp2_with fail
      refine (HR2.out _).mono ?_
      rintro e w3 ⟨rfl, b3⟩
      have F3 := F2.trans (Fr.of_below _ b3 (Nat.le_refl _))
      have T3 : TabP w3 g sx H := Row.keep T2 b3 (Row.lt T2)
      have S3 : StoP w3 sx S := Row.keep S2 b3 (Row.lt S2)
      have hp2 := HP.out i (H i).c.retiring hi HCK.out w3 T3 S3
      unfold clA clC at hp2
      have HP2 : Hid _ := hp2
      clear hp2 HP HR2 d0 d1 d2 d3 d4 d5 d6 d7 d8 d9
      go_wp2_with fail
      refine Calls.mono HP2.out ?_
      rintro e w4 ⟨r, S', H', rfl, hP, S4, T4, F4⟩
      have HQ : Hid _ := And.intro hP (And.intro S4 (And.intro T4 (F3.trans F4)))
      clear hP S4 T4 F4 HP2
      go_wp2
      go_ret
      exact ⟨r, S', H', rfl, .inr ⟨hov, i, 0, HL.out, .inr ⟨rfl, HQ.out.1⟩⟩, HQ.out.2.1, HQ.out.2.2.1, HQ.out.2.2.2⟩
    · have ec : (c == 0) = false := by rw [beq_eq_false_iff_ne]; exact hc0
      have HL : Hid (liveP H id i c) := hL
      clear hL
      go_wp2
      go_ret
      exact ⟨c, S, H, rfl, .inr ⟨hov, i, c, HL.out, .inl ⟨hc0, rfl, rfl, rfl⟩⟩, S2, T2, F2⟩
  · rw [decide_eq_true (by simpa using hov)] at HO
    go_enter Tryz.func46, Tryz.ntmps46
    go_wp2_with fail
    refine (HO.out _ h hs HT.out).mono ?_
    rintro e w1 ⟨rfl, hw⟩
    rw [hw]
    go_wp2
    go_ret
    exact ⟨10, S, H, rfl, .inl ⟨hov, rfl, rfl, rfl⟩, hs, h, Fr.refl _ _⟩

def createP (g : Nat) (S : Sto) (H : Nat → Hd) (id : Int) (key fix : ByteArray) (s a m e : Int) (S' : Sto) (H' : Nat → Hd) : Prop :=
  (S.tab ≠ some g ∧ e = 10 ∧ S' = S ∧ H' = H) ∨
  (S.tab = some g ∧ ((¬ (0 ≤ id ∧ id ≤ 65535 ∧ fix.size = 4 ∧ CfgOk s a m) ∧ e = 1 ∧ S' = S ∧ H' = H) ∨
    ((0 ≤ id ∧ id ≤ 65535 ∧ fix.size = 4 ∧ CfgOk s a m) ∧ ((¬ KeyLen key.size ∧ e = 2 ∧ S' = S ∧ H' = H) ∨
      ∃ A : Nat, 1 ≤ A ∧ A ≤ 3 ∧ key.size = 8 + 8 * A ∧ (((∃ i, i < 8 ∧ hit H id i) ∧ e = 12 ∧ S' = S ∧ H' = H) ∨
        ((∀ j, j < 8 → ¬ hit H id j) ∧ (((∀ j, j < 8 → (H j).c.st ≠ 0) ∧ e = 13 ∧ S' = S ∧ H' = H) ∨
          ∃ i, i < 8 ∧ (H i).c.st = 0 ∧ (∀ j, j < i → (H j).c.st ≠ 0) ∧ putP S H i ⟨1, A, id.toNat, fix, s.toNat, a.toNat, m.toNat, 0, key⟩ e S' H')))))))
attribute [local go_sem ↓] al87 stw87
attribute [local go_sem] run_al87 run_stT87 stN_cl blk_new blk_at blk_old blk_drew blk_setCell blk_setRow alloc_setRow
set_option maxRecDepth 100000 in
set_option maxHeartbeats 4000000 in
theorem create_over (g sx : Nat) (H : Nat → Hd) (S : Sto) (id : Int) (key fix : ByteArray) (s a m : Int) (hov : S.tab ≠ some g) (w : World) (h : TabP w g sx H) (hs : StoP w sx S) (ht : TabIn w S) :
    Calls Tryz.prog 44 #[ptr g, .int .i64 id, .string key, .string fix, .agg #[.int .i64 s, .int .i64 a, .int .i64 m]] w fun e w' => e = .returned (.int .i64 10) ∧ Fr [] w w' := by
  have ho := fun w h hs ht => over_any g sx H S w h hs ht
  rw [decide_eq_true hov] at ho
  unfold ptr at ho ⊢
  have HO : Hid _ := ho
  have T1 : TabP (w.alloc (.cells #[.int .i64 s, .int .i64 a, .int .i64 m] 50)) g sx H := Row.alloc h _
  have S1 : StoP (w.alloc (.cells #[.int .i64 s, .int .i64 a, .int .i64 m] 50)) sx S := Row.alloc hs _
  have I1 : TabIn (w.alloc (.cells #[.int .i64 s, .int .i64 a, .int .i64 m] 50)) S := fun t e => let ⟨V, hV⟩ := ht t e; ⟨V, hV.alloc _⟩
  have HI : Hid _ := I1
  clear ho ht I1
  go_enter Tryz.func44, Tryz.ntmps44
  go_wp2_with fail
  refine (HO.out _ T1 S1 HI.out).mono ?_
  rintro e w1 ⟨rfl, hw⟩
  rw [hw]
  go_wp2
  go_ret
  exact ⟨rfl, (Fr.refl _ _).alloc _⟩
set_option maxRecDepth 100000 in
set_option maxHeartbeats 4000000 in
theorem create_arg (g sx : Nat) (H : Nat → Hd) (S : Sto) (id : Int) (key fix : ByteArray) (s a m : Int) (hov : S.tab = some g) (hbad : ¬ (0 ≤ id ∧ id ≤ 65535 ∧ fix.size = 4 ∧ CfgOk s a m)) (hf : fix.size ≤ maxLen) (w : World) (h : TabP w g sx H) (hs : StoP w sx S) (ht : TabIn w S) :
    Calls Tryz.prog 44 #[ptr g, .int .i64 id, .string key, .string fix, .agg #[.int .i64 s, .int .i64 a, .int .i64 m]] w fun e w' => e = .returned (.int .i64 1) ∧ Fr [] w w' := by
  have ho := fun w h hs ht => over_any g sx H S w h hs ht
  rw [decide_eq_false (by simpa using hov)] at ho
  have hn := fun w => cnew_arg id key fix s a m hbad hf w
  unfold ptr at ho ⊢
  unfold clA clC at hn
  have HO : Hid _ := ho
  have HN : Hid _ := hn
  have T1 : TabP (w.alloc (.cells #[.int .i64 s, .int .i64 a, .int .i64 m] 50)) g sx H := Row.alloc h _
  have S1 : StoP (w.alloc (.cells #[.int .i64 s, .int .i64 a, .int .i64 m] 50)) sx S := Row.alloc hs _
  have I1 : TabIn (w.alloc (.cells #[.int .i64 s, .int .i64 a, .int .i64 m] 50)) S := fun t e => let ⟨V, hV⟩ := ht t e; ⟨V, hV.alloc _⟩
  have HI : Hid _ := I1
  have F1 : Fr [] w (w.alloc (.cells #[.int .i64 s, .int .i64 a, .int .i64 m] 50)) := (Fr.refl _ _).alloc _
  clear ho ht I1 hn hbad hf
  go_enter Tryz.func44, Tryz.ntmps44
  go_wp2_with fail
  refine (HO.out _ T1 S1 HI.out).mono ?_
  rintro e w1 ⟨rfl, hw⟩
  rw [hw]
  go_wp2_with fail
  refine (HN.out _).mono ?_
  rintro e w2 ⟨rfl, b2⟩
  have F2 := F1.trans (Fr.of_below [] b2 (Nat.le_refl _))
  unfold zCl
  go_wp2
  go_ret
  exact ⟨rfl, F2.alloc _⟩
set_option maxRecDepth 100000 in
set_option maxHeartbeats 8000000 in
theorem create_go (g sx : Nat) (H : Nat → Hd) (S : Sto) (I : Nat) (key fix : ByteArray) (s a m : Nat) (hov : S.tab = some g) (hI : I ≤ 65535) (hf : fix.size = 4) (hcf : CfgOk s a m) (hk : key.size ≤ maxLen) (hl : S.left ≤ 9223372036854775807) (w : World) (h : TabP w g sx H) (hs : StoP w sx S) (ht : TabIn w S) :
    Calls Tryz.prog 44 #[ptr g, .int .i64 I, .string key, .string fix, .agg #[.int .i64 s, .int .i64 a, .int .i64 m]] w fun e w' => ∃ (r : Int) (S' : Sto) (H' : Nat → Hd), e = .returned (.int .i64 r) ∧ createP g S H I key fix s a m r S' H' ∧ StoP w' sx S' ∧ TabP w' g sx H' ∧ Fr [g, sx] w w' := by
  have hgood : 0 ≤ (I : Int) ∧ (I : Int) ≤ 65535 ∧ fix.size = 4 ∧ CfgOk s a m := ⟨by omega, by omega, hf, hcf⟩
  have ho := fun w h hs ht => over_any g sx H S w h hs ht
  rw [decide_eq_false (by simpa using hov)] at ho
  have hn := fun w => cnew_ok I key fix s a m hI hf hcf hk w
  have hh := fun w h => has_any g sx H I w h
  have hfr := fun w h => free_any g sx H w h
  have hp := fun i c hi hc w h hs => putt_any g sx H S i c hi hc hl w h hs
  have hcl : ∀ A : Nat, 1 ≤ A → A ≤ 3 → key.size = 8 + 8 * A → ClOk ⟨1, A, I, fix, s, a, m, 0, key⟩ := fun A h1 h2 h3 => ⟨.inl rfl, ⟨h1, h2⟩, hI, hf, hcf, Nat.zero_le _, by simp [h3]⟩
  unfold ptr at ho hh hfr hp ⊢
  have HO : Hid _ := ho
  have HN : Hid _ := hn
  have HH : Hid _ := hh
  have HR : Hid _ := hfr
  have HP : Hid _ := hp
  have HC : Hid _ := hcl
  have HG : Hid _ := hgood
  have T1 : TabP (w.alloc (.cells #[.int .i64 s, .int .i64 a, .int .i64 m] 50)) g sx H := Row.alloc h _
  have S1 : StoP (w.alloc (.cells #[.int .i64 s, .int .i64 a, .int .i64 m] 50)) sx S := Row.alloc hs _
  have I1 : TabIn (w.alloc (.cells #[.int .i64 s, .int .i64 a, .int .i64 m] 50)) S := fun t e => let ⟨V, hV⟩ := ht t e; ⟨V, hV.alloc _⟩
  have HI : Hid _ := I1
  have F1 : Fr [g, sx] w (w.alloc (.cells #[.int .i64 s, .int .i64 a, .int .i64 m] 50)) := (Fr.refl _ _).alloc _
  clear ho ht I1 hn hh hfr hp hcl hgood hcf hk
  go_enter Tryz.func44, Tryz.ntmps44
  go_wp2_with fail
  refine (HO.out _ T1 S1 HI.out).mono ?_
  rintro e w1 ⟨rfl, hw⟩
  rw [hw]
  go_wp2_with fail
  refine (HN.out _).mono ?_
  rintro e w2 ⟨⟨hkn, rfl⟩ | ⟨A, a1, a2, a3, rfl⟩, b2⟩
  · have F2 := F1.trans (Fr.of_below [g, sx] b2 (Nat.le_refl _))
    have T2 : TabP w2 g sx H := Row.keep T1 b2 (Row.lt T1)
    have S2 : StoP w2 sx S := Row.keep S1 b2 (Row.lt S1)
    have HK : Hid _ := hkn
    clear hkn
    unfold clA clC zCl
    go_wp2
    go_ret
    exact ⟨2, S, H, rfl, .inr ⟨hov, .inr ⟨HG.out, .inl ⟨HK.out, rfl, rfl, rfl⟩⟩⟩, Row.alloc S2 _, Row.alloc T2 _, F2.alloc _⟩
  · have F2 := F1.trans (Fr.of_below [g, sx] b2 (Nat.le_refl _))
    have T2 : TabP w2 g sx H := Row.keep T1 b2 (Row.lt T1)
    have S2 : StoP w2 sx S := Row.keep S1 b2 (Row.lt S1)
    have hc := HC.out A a1 a2 a3
    have T3 : TabP (w2.alloc (.cells (clA ⟨1, A, I, fix, s, a, m, 0, key⟩) 87)) g sx H := Row.alloc T2 _
    have S3 : StoP (w2.alloc (.cells (clA ⟨1, A, I, fix, s, a, m, 0, key⟩) 87)) sx S := Row.alloc S2 _
    have F3 := F2.alloc (.cells (clA ⟨1, A, I, fix, s, a, m, 0, key⟩) 87)
    have r3 : (w2.alloc (.cells (clA ⟨1, A, I, fix, s, a, m, 0, key⟩) 87)).heap[w2.heap.size]? = some (.cells (clA ⟨1, A, I, fix, s, a, m, 0, key⟩) 87 (0, 0)) := heap_of_new _ _ _ rfl
    have HCK : Hid _ := hc
    have HA3 : Hid _ := a3
    clear hc b2 a3 T1 S1 F1
    unfold clA clC at T3 S3 F3 r3 ⊢
    go_wp2_with fail
    refine (HH.out _ T3).mono ?_
    rintro e w4 ⟨⟨hex, rfl⟩ | ⟨hno, rfl⟩, b4⟩
    · have F4 := F3.trans (Fr.of_below [g, sx] b4 (Nat.le_refl _))
      have HX : Hid _ := hex
      have T4 : TabP w4 g sx H := Row.keep T3 b4 (Row.lt T3)
      have S4 : StoP w4 sx S := Row.keep S3 b4 (Row.lt S3)
      clear hex
      go_wp2
      go_ret
      exact ⟨12, S, H, rfl, .inr ⟨hov, .inr ⟨HG.out, .inr ⟨A, a1, a2, HA3.out, .inl ⟨HX.out, rfl, rfl, rfl⟩⟩⟩⟩, S4, T4, F4⟩
    · have F4 := F3.trans (Fr.of_below [g, sx] b4 (Nat.le_refl _))
      have HX : Hid _ := hno
      have T4 : TabP w4 g sx H := Row.keep T3 b4 (Row.lt T3)
      have S4 : StoP w4 sx S := Row.keep S3 b4 (Row.lt S3)
      have r4 : w4.heap[w2.heap.size]? = some (.cells #[.int .i64 ((1 : Nat) : Int), .int .i64 A, .int .i64 I, .string fix, .int .i64 s, .int .i64 a, .int .i64 m, .int .i64 ((0 : Nat) : Int), .string key] 87 (0, 0)) := by rw [b4.block _ (by simp)]; exact r3
      clear hno b4 r3
      go_wp2_with fail
      refine (HR.out _ T4).mono ?_
      rintro e w5 ⟨⟨i, hi, h0, hm, rfl⟩ | ⟨hfull, rfl⟩, b5⟩
      · have F5 := F4.trans (Fr.of_below [g, sx] b5 (Nat.le_refl _))
        have T5 : TabP w5 g sx H := Row.keep T4 b5 (Row.lt T4)
        have S5 : StoP w5 sx S := Row.keep S4 b5 (Row.lt S4)
        have HM : Hid _ := And.intro h0 hm
        have r5 : w5.heap[w2.heap.size]? = some (.cells #[.int .i64 ((1 : Nat) : Int), .int .i64 A, .int .i64 I, .string fix, .int .i64 s, .int .i64 a, .int .i64 m, .int .i64 ((0 : Nat) : Int), .string key] 87 (0, 0)) := by
          rw [b5.block _ ?_]; exact r4
          rcases Nat.lt_or_ge w2.heap.size w4.heap.size with hlt | hge
          · exact hlt
          · rw [Array.getElem?_eq_none hge] at r4; cases r4
        obtain ⟨c0, c1, c2, c3, c4, c5, c6, c7, c8⟩ := cells9 r5
        have hp2 := HP.out i _ hi HCK.out w5 T5 S5
        unfold clA clC at hp2
        have HP2 : Hid _ := hp2
        clear hp2 h0 hm b5 r4 r5 HP
        go_wp2_with fail
        refine Calls.mono HP2.out ?_
        rintro e w6 ⟨r, S', H', rfl, hP, S6, T6, F6⟩
        have HQ : Hid _ := And.intro hP (And.intro S6 (And.intro T6 (F5.trans F6)))
        clear hP S6 T6 F6 HP2
        go_wp2
        go_ret
        exact ⟨r, S', H', rfl, .inr ⟨hov, .inr ⟨HG.out, .inr ⟨A, a1, a2, HA3.out, .inr ⟨HX.out, .inr ⟨i, hi, HM.out.1, HM.out.2, HQ.out.1⟩⟩⟩⟩⟩, HQ.out.2.1, HQ.out.2.2.1, HQ.out.2.2.2⟩
      · have F5 := F4.trans (Fr.of_below [g, sx] b5 (Nat.le_refl _))
        have T5 : TabP w5 g sx H := Row.keep T4 b5 (Row.lt T4)
        have S5 : StoP w5 sx S := Row.keep S4 b5 (Row.lt S4)
        have HM : Hid _ := hfull
        clear hfull b5
        go_wp2
        go_ret
        exact ⟨13, S, H, rfl, .inr ⟨hov, .inr ⟨HG.out, .inr ⟨A, a1, a2, HA3.out, .inr ⟨HX.out, .inl ⟨HM.out, rfl, rfl, rfl⟩⟩⟩⟩⟩, S5, T5, F5⟩
end Go.Proofs.YtgalgjmhdbncbaaGreat
