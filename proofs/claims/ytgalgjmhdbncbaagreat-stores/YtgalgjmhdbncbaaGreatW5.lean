import Derived.Test.YtgalgjmhdbncbaaGreatW4
namespace Go.Proofs.YtgalgjmhdbncbaaGreat
open Go.RowKit
attribute [local go_sem ↓] Go.wp_at_zero Go.wp_at_succ

/-! ### the script -/
def zopC : Array Value := #[.int .i64 0, .int .i64 0, .int .i64 0, .bool false, .string ⟨#[]⟩, .string ⟨#[]⟩, .string ⟨#[]⟩, .string ⟨#[]⟩, .int .i64 0, .int .i64 0, .int .i64 0, .int .i64 0, .int .i64 0, .string ⟨#[]⟩, .string ⟨#[]⟩, .string ⟨#[]⟩]
theorem al54 : Instr.alloc 54 true (.tuple #[]) = Al 54 := rfl
theorem run_al54 (w : World) : Sem.run Tryz.prog (Al 54) w = .ok (.pointer (some ⟨w.heap.size, 0, none⟩)) (w.alloc (.cells zopC 54)) := by kernel_rfl
theorem stw54 (p v : Value) : Instr.storeAt 54 p v = StT 54 p v := rfl
theorem run_stT54 (g : Nat) (v : Value) (w : World) : Sem.run Tryz.prog (StT 54 (.pointer (some ⟨g, 0, none⟩)) v) w = stN (blk w g) 16 v g w (stO Tryz.prog 54 v g w) := run_stT 54 16 (by kernel_rfl) g v w
theorem stN_op (k on a : Int) (y : Bool) (s t u v : ByteArray) (c1 c2 c3 r1 r2 : Int) (r3 r4 r5 : ByteArray) (g : Nat) (w : World) (r : Result Unit) :
    stN (some (.cells zopC 54 (0, 0))) 16 (.agg #[.int .i64 k, .int .i64 on, .int .i64 a, .bool y, .string s, .string t, .string u, .string v, .int .i64 c1, .int .i64 c2, .int .i64 c3, .int .i64 r1, .int .i64 r2, .string r3, .string r4, .string r5]) g w r
      = .ok () (w.setRow g #[.int .i64 k, .int .i64 on, .int .i64 a, .bool y, .string s, .string t, .string u, .string v, .int .i64 c1, .int .i64 c2, .int .i64 c3, .int .i64 r1, .int .i64 r2, .string r3, .string r4, .string r5]) := by
  unfold stN
  exact if_pos ⟨rfl, rfl, rfl, by simp [Value.oneCell']⟩
theorem ldw54 (v : Value) : Instr.loadAt 54 v = LdT 54 v := rfl
theorem run_ldT54 (g off : Nat) (w : World) : Sem.run Tryz.prog (LdT 54 (.pointer (some ⟨g, off, none⟩))) w = ldN (blk w g) off 16 w (ldO Tryz.prog 54 g off w) := run_ldT 54 16 _ Tryz.underlying54 rfl (by kernel_rfl) g off w
theorem ldN_op (k on a : Int) (y : Bool) (s t u v : ByteArray) (c1 c2 c3 r1 r2 : Int) (r3 r4 r5 : ByteArray) (w : World) (r : Result Value) :
    ldN (some (.cells #[.int .i64 k, .int .i64 on, .int .i64 a, .bool y, .string s, .string t, .string u, .string v, .int .i64 c1, .int .i64 c2, .int .i64 c3, .int .i64 r1, .int .i64 r2, .string r3, .string r4, .string r5] 54 (0, 0))) 0 16 w r
      = .ok (.agg #[.int .i64 k, .int .i64 on, .int .i64 a, .bool y, .string s, .string t, .string u, .string v, .int .i64 c1, .int .i64 c2, .int .i64 c3, .int .i64 r1, .int .i64 r2, .string r3, .string r4, .string r5]) w := by
  unfold ldN
  exact if_pos ⟨rfl, Nat.le_refl _⟩
theorem add_block (a : Addr) (j : Nat) : (a.add j).block = a.block := by unfold Addr.add; split <;> rfl
/-- an element of the script -/
def OpAt (w : World) (a : Addr) (o : OpA) : Prop := ∀ j v, (opC o).toList[j]? = some v → w.cell? (a.add j) = some v
theorem run_load54 (w : World) (a : Addr) (o : OpA) (h : OpAt w a o) : Sem.run Tryz.prog (LdT 54 (.pointer (some a))) w = .ok (.agg (opC o)) w := by
  have hl : (loadCells a (opC o).toList.length).run Tryz.prog w = .ok (opC o).toList.toArray w := run_loadCells_list (P := Tryz.prog) w a (opC o).toList h
  obtain ⟨i, hi, hs⟩ : ∃ i, Tryz.prog.info? 54 = some i ∧ i.size = 16 := by
    have h : (Tryz.prog.info? 54).map (·.size) = some 16 := by kernel_rfl
    rw [Option.map_eq_some_iff] at h
    exact h
  have hagg : (isAgg 54).run Tryz.prog w = .ok true w := by
    unfold isAgg
    rw [Sem.run_bind, run_underlying Tryz.underlying54 w]
    rfl
  have hl2 : (loadCells a 16).run Tryz.prog w = .ok (opC o) w := hl
  show Sem.run Tryz.prog (Instr.loadAt 54 (.pointer (some a))) w = _
  simp [Instr.loadAt, Instr.sureAddr, loadVar, Sem.run_bind, hagg, sizeOf, typeInfo, hi, hs, hl2]
attribute [local go_sem ↓] al54 stw54 ldw54
attribute [local go_sem] run_al54 run_stT54 stN_op blk_new alloc_setRow run_ldT54 ldN_op
set_option maxRecDepth 100000 in
set_option maxHeartbeats 4000000 in
theorem plays_any (lo hi : Int) (a : Addr) (len cap : Nat) (os : Nat → OpA) (Inv : Nat → Nat → Nat → World → Prop) (w : World) (hab : 0 < len → a.block < w.heap.size) (hlen : len ≤ 1152921504606846975)
    (hos : ∀ i, i < len → OpAt w (a.add (i * 16)) (os i))
    (hbeg : ∀ W, Calls Tryz.prog 13 #[.int .i64 lo, .int .i64 hi] W fun e w' => e = .returned (.bool true) ∧ Below W.heap.size W w')
    (hinit : ∀ W : World, w.heap.size ≤ W.heap.size → Inv w.heap.size W.heap.size 0 (W.alloc (.cells #[.slice none 0 0, .slice none 0 0, .slice none 0 0, .slice none 0 0] 48)))
    (hal : ∀ B gw k W o, Inv B gw k W → Inv B gw k (W.alloc o)) (hsk : ∀ B gw k W, Inv B gw k W → Inv B gw (k + 1) W)
    (hst : ∀ i B gw k W, i < len → lo ≤ (os i).kind → (os i).kind ≤ hi → B ≤ W.heap.size → k < len → Inv B gw k W → Calls Tryz.prog 14 #[ptr gw, .agg (opC (os i))] W fun e w' => e = .returned (.bool true) ∧ Inv B gw (k + 1) w' ∧ Below B W w') :
    Calls Tryz.prog 6 #[.slice (some a) len cap, .int .i64 lo, .int .i64 hi] w fun e w' => e = .returned (.bool true) ∧ Below w.heap.size w w' := by
  have HB : Hid _ := hbeg
  have HI : Hid _ := hinit
  have HA : Hid _ := hal
  have HK : Hid _ := hsk
  have HT : Hid _ := hst
  have HO : Hid _ := hos
  have HL : Hid _ := hlen
  clear hbeg hinit hal hsk hst hos hlen
  go_enter Tryz.func6, Tryz.ntmps6
  go_wp2_with fail
  refine (HB.out _).mono ?_
  rintro e w1 ⟨rfl, b1⟩
  go_wp2
  go_loopw [7, 9, 10] (fun _ i _ wr => ∃ k : Nat, k ≤ len ∧ i = .int .i64 k ∧ Inv w.heap.size w1.heap.size k wr ∧ Below w.heap.size w wr) (fun _ i _ _ => len - (intOf i).toNat)
  case atStart => exact ⟨0, by omega, rfl, HI.out _ b1.size, b1.alloc b1.size _⟩
  case round =>
    obtain ⟨k, hk, rfl, hI, hB⟩ := hrel
    by_cases hlt : k < len
    · obtain ⟨o, ho⟩ : ∃ o, os k = o := ⟨_, rfl⟩
      have hO := HO.out k hlt
      rw [ho] at hO
      have hL := run_load54 wr (a.add (k * 16)) o (fun j v hj => by rw [hB.cell (p := (a.add (k * 16)).add j) (by rw [add_block, add_block]; exact hab (by omega))]; exact hO j v hj)
      unfold opC at hL
      have hm : (k : Int) < 1152921504606846976 := by have := HL.out; omega
      clear hO
      by_cases h1 : o.kind < lo
      · have hI2 := HK.out _ _ _ _ (HA.out _ _ _ _ (.cells (opC o) 54) hI)
        have hB2 := hB.alloc (Nat.le_of_lt_succ (Nat.lt_succ_of_le hB.size)) (.cells (opC o) 54)
        unfold opC at hI2 hB2
        have H2 : Hid _ := And.intro hI2 hB2
        clear hI hI2 hB2
        go_wp2
        exact ⟨⟨k + 1, by omega, by go_num, H2.out.1, H2.out.2⟩, by simp [intOf]; omega⟩
      · by_cases h2 : hi < o.kind
        · have hI2 := HK.out _ _ _ _ (HA.out _ _ _ _ (.cells (opC o) 54) hI)
          have hB2 := hB.alloc (Nat.le_of_lt_succ (Nat.lt_succ_of_le hB.size)) (.cells (opC o) 54)
          unfold opC at hI2 hB2
          have H2 : Hid _ := And.intro hI2 hB2
          clear hI hI2 hB2
          go_wp2
          exact ⟨⟨k + 1, by omega, by go_num, H2.out.1, H2.out.2⟩, by simp [intOf]; omega⟩
        · have hst := HT.out k w.heap.size w1.heap.size k (wr.alloc (.cells (opC o) 54)) hlt (by rw [ho]; omega) (by rw [ho]; omega) (by have := hB.size; simp; omega) hlt (HA.out _ _ _ _ _ hI)
          rw [ho] at hst
          unfold ptr opC at hst
          have HS : Hid _ := hst
          have hB2 := hB.alloc (Nat.le_of_lt_succ (Nat.lt_succ_of_le hB.size)) (.cells (opC o) 54)
          unfold opC at hB2
          have H2 : Hid _ := hB2
          clear hst hB2
          go_wp2_with fail
          refine Calls.mono HS.out ?_
          rintro e w2 ⟨rfl, hI2, hB2⟩
          have H3 : Hid _ := And.intro hI2 (H2.out.trans hB2)
          clear hI hI2 hB2
          go_wp2
          exact ⟨⟨k + 1, by omega, by go_num, H3.out.1, H3.out.2⟩, by simp [intOf]; omega⟩
    · go_wp2
      go_ret
      exact ⟨rfl, hB⟩
set_option maxRecDepth 100000 in
set_option maxHeartbeats 4000000 in
theorem plays_nil (lo hi : Int) (w : World)
    (hbeg : ∀ W, Calls Tryz.prog 13 #[.int .i64 lo, .int .i64 hi] W fun e w' => e = .returned (.bool true) ∧ Below W.heap.size W w') :
    Calls Tryz.prog 6 #[.slice none 0 0, .int .i64 lo, .int .i64 hi] w fun e w' => e = .returned (.bool true) ∧ Below w.heap.size w w' := by
  have HB : Hid _ := hbeg
  clear hbeg
  go_enter Tryz.func6, Tryz.ntmps6
  go_wp2_with fail
  refine (HB.out _).mono ?_
  rintro e w1 ⟨rfl, b1⟩
  go_wp2
  go_loopw [9] (fun i wr => i = .int .i64 0 ∧ Below w.heap.size w wr) (fun _ _ => 0)
  case atStart => exact ⟨rfl, b1.alloc b1.size _⟩
  case round =>
    obtain ⟨rfl, hB⟩ := hrel
    go_wp2
    go_ret
    exact ⟨rfl, hB⟩
end Go.Proofs.YtgalgjmhdbncbaaGreat
