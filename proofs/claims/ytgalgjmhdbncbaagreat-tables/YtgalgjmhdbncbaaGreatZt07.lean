import Derived.Test.YtgalgjmhdbncbaaGreatZt01
import Derived.Test.YtgalgjmhdbncbaaGreatZt06
import Derived.Test.YtgalgjmhdbncbaaGreatZt00
import Derived.Deep.RegionHeld
import Derived.Test.YtgalgjmhdbncbaaGreatZt05
namespace Go.Proofs.YtgalgjmhdbncbaaGreat
open Go.RowKit
attribute [local go_sem ↓] Go.wp_at_zero Go.wp_at_succ

structure Cl where
  st : Nat
  alg : Nat
  id : Nat
  fix : ByteArray
  seals : Nat
  ahead : Nat
  most : Nat
  res : Nat
  key : ByteArray
def zCl : Cl := ⟨0, 0, 0, ⟨#[]⟩, 0, 0, 0, 0, ⟨#[]⟩⟩
def clC (a b c : Int) (f : ByteArray) (d e g h : Int) (k : ByteArray) : Array Value := #[.int .i64 a, .int .i64 b, .int .i64 c, .string f, .int .i64 d, .int .i64 e, .int .i64 g, .int .i64 h, .string k]
def clA (c : Cl) : Array Value := clC c.st c.alg c.id c.fix c.seals c.ahead c.most c.res c.key
def zclA : Array Value := #[.int .i64 0, .int .i64 0, .int .i64 0, .string ⟨#[]⟩, .int .i64 0, .int .i64 0, .int .i64 0, .int .i64 0, .string ⟨#[]⟩]
theorem al87 : Instr.alloc 87 true (.tuple #[]) = Al 87 := rfl
theorem run_al87 (w : World) : Sem.run Tryz.prog (Al 87) w = .ok (.pointer (some ⟨w.heap.size, 0, none⟩)) (w.alloc (.cells zclA 87)) := by kernel_rfl
theorem stw87 (p v : Value) : Instr.storeAt 87 p v = StT 87 p v := rfl
theorem run_stT87 (g : Nat) (v : Value) (w : World) : Sem.run Tryz.prog (StT 87 (.pointer (some ⟨g, 0, none⟩)) v) w = stN (blk w g) 9 v g w (stO Tryz.prog 87 v g w) := run_stT 87 9 (by kernel_rfl) g v w
theorem stN_cl (a b c : Int) (f : ByteArray) (d e x h : Int) (k : ByteArray) (g : Nat) (w : World) (r : Result Unit) :
    stN (some (.cells zclA 87 (0, 0))) 9 (.agg #[.int .i64 a, .int .i64 b, .int .i64 c, .string f, .int .i64 d, .int .i64 e, .int .i64 x, .int .i64 h, .string k]) g w r
      = .ok () (w.setRow g (clC a b c f d e x h k)) := by
  unfold stN
  exact if_pos ⟨rfl, rfl, rfl, by simp [Value.oneCell']⟩
theorem res87 {fn : Func} {p u : Tmp} (h : fn.results = #[.cell p 87, .tmp u]) (tmps : Array Value) (w : World) (g : Nat) (cs : Array Value) (v : Value) (hcs : cs.size = 9)
    (hp : tmps.getD p undef = .pointer (some ⟨g, 0, none⟩)) (hv : tmps.getD u undef = v) (hg : w.heap[g]? = some (.cells cs 87 (0, 0))) : (results fn tmps).run Tryz.prog w = .ok (.tuple #[.agg cs, v]) w := by
  have hp' : tmps[p]?.getD undef = .pointer (some ⟨g, 0, none⟩) := by simpa using hp
  have hv' : tmps[u]?.getD undef = v := by simpa using hv
  have hl := run_loadVar_row (P := Tryz.prog) w g 87 87 _ (0, 0) _ hg Tryz.underlying87 rfl (by rw [hcs]; kernel_rfl)
  simp [results, h, hp', hv', asAddr, hl]
theorem clC_size (a b c : Int) (f : ByteArray) (d e g h : Int) (k : ByteArray) : (clC a b c f d e g h k).size = 9 := rfl
attribute [local go_sem ↓] al87 stw87
attribute [local go_sem] run_al87 run_stT87 stN_cl blk_new blk_at blk_old blk_drew blk_setCell blk_setRow alloc_setRow

def CfgOk (s a m : Int) : Prop := (1 ≤ s ∧ s ≤ 65535) ∧ (1 ≤ a ∧ a ≤ 100) ∧ (0 ≤ m ∧ m ≤ 200)
set_option maxRecDepth 100000 in
set_option maxHeartbeats 1000000 in
theorem cright_yes (s a m : Int) (h : CfgOk s a m) (w : World) : Calls Tryz.prog 111 #[.agg #[.int .i64 s, .int .i64 a, .int .i64 m]] w fun e w' => e = .returned (.bool true) ∧ Below w.heap.size w w' := by
  obtain ⟨⟨h1, h2⟩, ⟨h3, h4⟩, ⟨h5, h6⟩⟩ := h
  go_enter Tryz.func111, Tryz.ntmps111
  go_wp2
  go_ret
  exact ⟨rfl, (Below.refl _ _).alloc (Nat.le_refl _) _⟩
set_option maxRecDepth 100000 in
set_option maxHeartbeats 1000000 in
theorem cright_no (s a m : Int) (h : ¬ CfgOk s a m) (w : World) : Calls Tryz.prog 111 #[.agg #[.int .i64 s, .int .i64 a, .int .i64 m]] w fun e w' => e = .returned (.bool false) ∧ Below w.heap.size w w' := by
  have H : Hid _ := h
  clear h
  by_cases h1 : 1 ≤ s
  · by_cases h2 : s ≤ 65535
    · by_cases h3 : 1 ≤ a
      · by_cases h4 : a ≤ 100
        · by_cases h5 : 0 ≤ m
          · by_cases h6 : m ≤ 200
            · exact absurd ⟨⟨h1, h2⟩, ⟨h3, h4⟩, ⟨h5, h6⟩⟩ H.out
            all_goals (go_enter Tryz.func111, Tryz.ntmps111; go_wp2; go_ret; exact ⟨rfl, (Below.refl _ _).alloc (Nat.le_refl _) _⟩)
          all_goals (go_enter Tryz.func111, Tryz.ntmps111; go_wp2; go_ret; exact ⟨rfl, (Below.refl _ _).alloc (Nat.le_refl _) _⟩)
        all_goals (go_enter Tryz.func111, Tryz.ntmps111; go_wp2; go_ret; exact ⟨rfl, (Below.refl _ _).alloc (Nat.le_refl _) _⟩)
      all_goals (go_enter Tryz.func111, Tryz.ntmps111; go_wp2; go_ret; exact ⟨rfl, (Below.refl _ _).alloc (Nat.le_refl _) _⟩)
    all_goals (go_enter Tryz.func111, Tryz.ntmps111; go_wp2; go_ret; exact ⟨rfl, (Below.refl _ _).alloc (Nat.le_refl _) _⟩)
  all_goals (go_enter Tryz.func111, Tryz.ntmps111; go_wp2; go_ret; exact ⟨rfl, (Below.refl _ _).alloc (Nat.le_refl _) _⟩)

structure ClOk (c : Cl) : Prop where
  st : c.st = 1 ∨ c.st = 2
  alg : 1 ≤ c.alg ∧ c.alg ≤ 3
  id : c.id ≤ 65535
  fix : c.fix.size = 4
  cfg : CfgOk c.seals c.ahead c.most
  res : c.res ≤ c.seals
  key : c.key.size = if c.st = 1 then 8 + 8 * c.alg else 0
def newErr (id : Int) (key fix : ByteArray) (s a m : Int) : Int → Prop := fun c =>
  (¬ (0 ≤ id ∧ id ≤ 65535 ∧ fix.size = 4 ∧ CfgOk s a m) ∧ c = 1) ∨ ((0 ≤ id ∧ id ≤ 65535 ∧ fix.size = 4 ∧ CfgOk s a m) ∧ ¬ KeyLen key.size ∧ c = 2)
set_option maxRecDepth 100000 in
set_option maxHeartbeats 4000000 in
theorem cnew_arg (id : Int) (key fix : ByteArray) (s a m : Int) (h : ¬ (0 ≤ id ∧ id ≤ 65535 ∧ fix.size = 4 ∧ CfgOk s a m)) (hf : fix.size ≤ maxLen) (w : World) :
    Calls Tryz.prog 81 #[.int .i64 id, .string key, .string fix, .agg #[.int .i64 s, .int .i64 a, .int .i64 m]] w fun e w' => e = .returned (.tuple #[.agg (clA zCl), .int .i64 1]) ∧ Below w.heap.size w w' := by
  have H : Hid _ := h
  have HF : Hid _ := hf
  clear h hf
  by_cases h1 : id < 0
  · go_enter Tryz.func81, Tryz.ntmps81
    go_wp2
    refine bodyPost_ret (res87 Tryz.results81 _ _ (w.heap.size + 1) (clA zCl) _ rfl rfl rfl (setRow_heap _ _ _ _ 87 _ (heap_of_new _ _ _ (by simp)))) rfl ⟨rfl, ?_⟩
    exact Below.setRow ((((Below.refl _ w).alloc (Nat.le_refl _) _).alloc (by simp) _)) (by omega) _
  · have e1 : ¬ (id < 0) := h1
    by_cases h2 : 65535 < id
    · go_enter Tryz.func81, Tryz.ntmps81
      go_wp2
      refine bodyPost_ret (res87 Tryz.results81 _ _ (w.heap.size + 1) (clA zCl) _ rfl rfl rfl (setRow_heap _ _ _ _ 87 _ (heap_of_new _ _ _ (by simp)))) rfl ⟨rfl, ?_⟩
      exact Below.setRow ((((Below.refl _ w).alloc (Nat.le_refl _) _).alloc (by simp) _)) (by omega) _
    · by_cases h3 : fix.size = 4
      · have hC : ¬ CfgOk s a m := fun h => H.out ⟨by omega, by omega, h3, h⟩
        have HC : Hid _ := hC
        have e3 : ((fix.size : Int) == 4) = true := by rw [beq_iff_eq]; omega
        clear hC
        go_enter Tryz.func81, Tryz.ntmps81
        go_wp2_with fail
        refine (cright_no s a m HC.out _).mono ?_
        rintro e w1 ⟨rfl, b1⟩
        have r1 : w1.heap[w.heap.size + 1]? = some (.cells zclA 87 (0, 0)) := by rw [b1.block _ (by simp)]; exact heap_of_new _ _ _ (by simp)
        have q1 : blk w1 (w.heap.size + 1) = some (.cells zclA 87 (0, 0)) := r1
        have B1 : Below w.heap.size w w1 := (((Below.refl _ w).alloc (Nat.le_refl _) _).alloc (by simp) _).trans (b1.mono (by simp; omega))
        go_wp2
        refine bodyPost_ret (res87 Tryz.results81 _ _ (w.heap.size + 1) (clA zCl) _ rfl rfl rfl (setRow_heap _ _ _ _ 87 _ r1)) rfl ⟨rfl, ?_⟩
        exact Below.setRow B1 (by omega) _
      · have e3 : ((fix.size : Int) == 4) = false := by rw [beq_eq_false_iff_ne]; omega
        go_enter Tryz.func81, Tryz.ntmps81
        go_wp2
        refine bodyPost_ret (res87 Tryz.results81 _ _ (w.heap.size + 1) (clA zCl) _ rfl rfl rfl (setRow_heap _ _ _ _ 87 _ (heap_of_new _ _ _ (by simp)))) rfl ⟨rfl, ?_⟩
        exact Below.setRow ((((Below.refl _ w).alloc (Nat.le_refl _) _).alloc (by simp) _)) (by omega) _
set_option maxRecDepth 100000 in
set_option maxHeartbeats 4000000 in
theorem cnew_ok (I : Nat) (key fix : ByteArray) (s a m : Nat) (hI : I ≤ 65535) (hf : fix.size = 4) (hc : CfgOk s a m) (hk : key.size ≤ maxLen) (w : World) :
    Calls Tryz.prog 81 #[.int .i64 I, .string key, .string fix, .agg #[.int .i64 s, .int .i64 a, .int .i64 m]] w fun e w' =>
      ((¬ KeyLen key.size ∧ e = .returned (.tuple #[.agg (clA zCl), .int .i64 2])) ∨ (∃ A : Nat, 1 ≤ A ∧ A ≤ 3 ∧ key.size = 8 + 8 * A ∧ e = .returned (.tuple #[.agg (clA ⟨1, A, I, fix, s, a, m, 0, key⟩), .int .i64 0]))) ∧ Below w.heap.size w w' := by
  have HC : Hid _ := hc
  have HK : Hid _ := hk
  have e1 : ¬ ((I : Int) < 0) := by omega
  have e3 : ((fix.size : Int) == 4) = true := by rw [beq_iff_eq]; omega
  clear hc hk
  go_enter Tryz.func81, Tryz.ntmps81
  go_wp2_with fail
  refine (cright_yes s a m HC.out _).mono ?_
  rintro e w1 ⟨rfl, b1⟩
  have r1 : w1.heap[w.heap.size + 1]? = some (.cells zclA 87 (0, 0)) := by rw [b1.block _ (by simp)]; exact heap_of_new _ _ _ (by simp)
  have r0 : w1.heap[w.heap.size]? = some (.cells #[.int .i64 s, .int .i64 a, .int .i64 m] 50 (0, 0)) := by rw [b1.block _ (by simp; omega)]; exact heap_of_old _ _ _ _ (by simp) (heap_of_new _ _ _ rfl)
  have q1 : blk w1 (w.heap.size + 1) = some (.cells zclA 87 (0, 0)) := r1
  have c0 : w1.cell? ⟨w.heap.size, 0, none⟩ = some (.int .i64 s) := by rw [cell_of_row _ _ 0 _ _ _ r0]; rfl
  have c1 : w1.cell? ⟨w.heap.size, 1, none⟩ = some (.int .i64 a) := by rw [cell_of_row _ _ 1 _ _ _ r0]; rfl
  have c2 : w1.cell? ⟨w.heap.size, 2, none⟩ = some (.int .i64 m) := by rw [cell_of_row _ _ 2 _ _ _ r0]; rfl
  have B1 : Below w.heap.size w w1 := (((Below.refl _ w).alloc (Nat.le_refl _) _).alloc (by simp) _).trans (b1.mono (by simp; omega))
  clear b1 r0
  go_wp2_with fail
  refine (alg_any key HK.out _).mono ?_
  rintro e w2 ⟨⟨A, h1, h2, hz, rfl⟩ | ⟨n1, n2, n3, rfl⟩, hw⟩
  · subst hw
    have eA : ((A : Int) == 0) = false := by rw [beq_eq_false_iff_ne]; omega
    have HZ : Hid _ := hz
    clear hz
    go_wp2
    refine bodyPost_ret (res87 Tryz.results81 _ _ (w.heap.size + 1) (clA ⟨1, A, I, fix, s, a, m, 0, key⟩) _ rfl rfl rfl (setRow_heap _ _ _ _ 87 _ r1)) rfl ⟨.inr ⟨A, h1, h2, HZ.out, rfl⟩, ?_⟩
    exact Below.setRow B1 (by omega) _
  · subst hw
    have HN : Hid (¬ KeyLen key.size) := by rintro (h | h | h) <;> contradiction
    clear n1 n2 n3
    go_wp2
    refine bodyPost_ret (res87 Tryz.results81 _ _ (w.heap.size + 1) (clA zCl) _ rfl rfl rfl (setRow_heap _ _ _ _ 87 _ r1)) rfl ⟨.inl ⟨HN.out, rfl⟩, ?_⟩
    exact Below.setRow B1 (by omega) _
theorem res87' {fn : Func} {p : Tmp} (h : fn.results = #[.cell p 87]) (tmps : Array Value) (w : World) (g : Nat) (cs : Array Value) (hcs : cs.size = 9)
    (hp : tmps.getD p undef = .pointer (some ⟨g, 0, none⟩)) (hg : w.heap[g]? = some (.cells cs 87 (0, 0))) : (results fn tmps).run Tryz.prog w = .ok (.agg cs) w :=
  results_cell_row h tmps w g 87 _ (0, 0) _ hp hg Tryz.underlying87 rfl (by rw [hcs]; kernel_rfl)
def Cl.reserving (c : Cl) : Cl := { c with res := min (c.res + c.ahead) c.seals }
def Cl.retiring (c : Cl) : Cl := { c with st := 2, key := ⟨#[]⟩ }
set_option maxRecDepth 100000 in
set_option maxHeartbeats 4000000 in
theorem reserving_any (c : Cl) (h1 : c.res ≤ 100000) (h2 : c.ahead ≤ 100000) (w : World) :
    Calls Tryz.prog 42 #[.agg (clA c)] w fun e w' => e = .returned (.agg (clA c.reserving)) ∧ Below w.heap.size w w' := by
  unfold clA clC
  have hmin : min ((c.res : Int) + (c.ahead : Int)) (c.seals : Int) = ((min (c.res + c.ahead) c.seals : Nat) : Int) := by omega
  go_enter Tryz.func42, Tryz.ntmps42
  go_wp2
  refine bodyPost_ret (res87' Tryz.results42 _ _ (w.heap.size + 1) (clA c.reserving) rfl rfl (setRow_heap _ _ _ _ 87 _ (heap_of_new _ _ _ (by simp)))) rfl ⟨rfl, ?_⟩
  exact Below.setRow ((((Below.refl _ w).alloc (Nat.le_refl _) _).alloc (by simp) _)) (by omega) _
set_option maxRecDepth 100000 in
set_option maxHeartbeats 4000000 in
theorem retiring_any (c : Cl) (w : World) :
    Calls Tryz.prog 84 #[.agg (clA c)] w fun e w' => e = .returned (.agg (clA c.retiring)) ∧ Below w.heap.size w w' := by
  unfold clA clC
  go_enter Tryz.func84, Tryz.ntmps84
  go_wp2
  refine bodyPost_ret (res87' Tryz.results84 _ _ (w.heap.size + 1) (clA c.retiring) rfl rfl (setRow_heap _ _ _ _ 87 _ (heap_of_new _ _ _ (by simp)))) rfl ⟨rfl, ?_⟩
  exact Below.setRow ((((Below.refl _ w).alloc (Nat.le_refl _) _).alloc (by simp) _)) (by omega) _

theorem cells9 {w : World} {g : Nat} {t : TypeId} {v0 v1 v2 v3 v4 v5 v6 v7 v8 : Value} (h : w.heap[g]? = some (.cells #[v0, v1, v2, v3, v4, v5, v6, v7, v8] t (0, 0))) :
    w.cell? ⟨g, 0, none⟩ = some v0 ∧ w.cell? ⟨g, 1, none⟩ = some v1 ∧ w.cell? ⟨g, 2, none⟩ = some v2 ∧ w.cell? ⟨g, 3, none⟩ = some v3 ∧ w.cell? ⟨g, 4, none⟩ = some v4 ∧ w.cell? ⟨g, 5, none⟩ = some v5 ∧ w.cell? ⟨g, 6, none⟩ = some v6 ∧ w.cell? ⟨g, 7, none⟩ = some v7 ∧ w.cell? ⟨g, 8, none⟩ = some v8 := by
  refine ⟨?_, ?_, ?_, ?_, ?_, ?_, ?_, ?_, ?_⟩
  · rw [cell_of_row _ _ 0 _ _ _ h]; rfl
  · rw [cell_of_row _ _ 1 _ _ _ h]; rfl
  · rw [cell_of_row _ _ 2 _ _ _ h]; rfl
  · rw [cell_of_row _ _ 3 _ _ _ h]; rfl
  · rw [cell_of_row _ _ 4 _ _ _ h]; rfl
  · rw [cell_of_row _ _ 5 _ _ _ h]; rfl
  · rw [cell_of_row _ _ 6 _ _ _ h]; rfl
  · rw [cell_of_row _ _ 7 _ _ _ h]; rfl
  · rw [cell_of_row _ _ 8 _ _ _ h]; rfl
def HoldsC (c : Cl) : Prop := (1 ≤ c.alg ∧ c.alg ≤ 3) ∧ CfgOk c.seals c.ahead c.most ∧ c.res ≤ c.seals ∧ ((c.st = 1 ∧ c.key.size = 8 + 8 * c.alg) ∨ (c.st = 2 ∧ c.key.size = 0))
theorem empty_iff (s : ByteArray) : s.size = 0 ↔ s = ⟨#[]⟩ := by
  constructor
  · intro h
    apply bytes_ext h
    intro j hj; omega
  · rintro rfl; rfl
theorem alg_no (c : Cl) (h : ¬ (1 ≤ c.alg ∧ c.alg ≤ 3)) (w : World) : Calls Tryz.prog 73 #[.agg (clA c)] w fun e w' => e = .returned (.bool false) ∧ Below w.heap.size w w' := by
  have H : Hid _ := h
  clear h
  unfold clA clC
  go_enter Tryz.func73, Tryz.ntmps73
  go_wp2_with fail
  refine (sizes_no c.alg (fun h => H.out ⟨by omega, by omega⟩) _).mono ?_
  rintro e w1 ⟨rfl, hw⟩
  rw [hw]
  go_wp2
  go_ret
  exact ⟨rfl, (Below.refl _ _).alloc (Nat.le_refl _) _⟩
theorem beq_ne {a b : ByteArray} (h : a ≠ b) : (a.toList == b.toList) = false := by
  rw [beq_eq_false_iff_ne]
  intro e
  rw [ByteArray.toList_eq, ByteArray.toList_eq] at e
  exact h (WideShapes.bytes_inj e)
theorem isEmpty_no {a : ByteArray} (h : a.size ≠ 0) : a.toList.isEmpty = false := by
  rw [ByteArray.toList_eq, List.isEmpty_eq_false_iff]
  intro e
  exact h (by have := congrArg List.length e; simpa using this)
set_option maxRecDepth 100000 in
set_option maxHeartbeats 4000000 in
theorem holds_at (c : Cl) (b : Bool) (h2 : 1 ≤ c.alg ∧ c.alg ≤ 3) (hb : b = true ↔ HoldsC c) (hz : c.key.size ≤ maxLen) (w : World) : Calls Tryz.prog 73 #[.agg (clA c)] w fun e w' => e = .returned (.bool b) ∧ Below w.heap.size w w' := by
  have HB : Hid _ := hb
  have H2 : Hid _ := h2
  have HZ : Hid _ := hz
  have e1 : ((8 + 8 * (c.alg : Int)) == 0) = false := by rw [beq_eq_false_iff_ne]; omega
  clear hb h2 hz
  unfold clA clC
  by_cases hC : CfgOk c.seals c.ahead c.most
  · have HC : Hid _ := hC
    clear hC
    go_enter Tryz.func73, Tryz.ntmps73
    go_wp2_with fail
    refine (sizes_any c.alg H2.out.1 H2.out.2 _).mono ?_
    rintro e w1 ⟨rfl, hw⟩
    rw [hw]
    go_wp2_with fail
    refine (cright_yes _ _ _ HC.out _).mono ?_
    rintro e w2 ⟨rfl, b2⟩
    have r2 : w2.heap[w.heap.size]? = some (.cells #[.int .i64 c.st, .int .i64 c.alg, .int .i64 c.id, .string c.fix, .int .i64 c.seals, .int .i64 c.ahead, .int .i64 c.most, .int .i64 c.res, .string c.key] 87 (0, 0)) := by rw [b2.block _ (by simp)]; exact heap_of_new _ _ _ rfl
    obtain ⟨c0, c1, c2, c3, c4, c5, c6, c7, c8⟩ := cells9 r2
    have B2 : Below w.heap.size w w2 := ((Below.refl _ w).alloc (Nat.le_refl _) _).trans (b2.mono (by simp))
    clear b2 r2
    by_cases hr : c.res ≤ c.seals
    · have er : ¬ ((c.seals : Int) < (c.res : Int)) := by omega
      by_cases h1 : c.st = 1
      · have k1 : ((c.st : Int) == 1) = true := by rw [beq_iff_eq]; omega
        by_cases hk : c.key.size = 8 + 8 * c.alg
        · have k2 : ((c.key.size : Int) == 8 + 8 * (c.alg : Int)) = true := by rw [beq_iff_eq]; omega
          have : b = true := HB.out.2 ⟨H2.out, HC.out, hr, .inl ⟨h1, hk⟩⟩
          subst this
          clear hk h1
          go_wp2
          go_ret
          exact ⟨rfl, B2⟩
        · have k2 : ((c.key.size : Int) == 8 + 8 * (c.alg : Int)) = false := by rw [beq_eq_false_iff_ne]; omega
          have : b = false := by
            rw [Bool.eq_false_iff]
            intro e
            obtain ⟨_, _, _, ⟨_, h⟩ | ⟨h, _⟩⟩ := HB.out.1 e
            · exact hk h
            · omega
          subst this
          clear hk h1
          go_wp2
          go_ret
          exact ⟨rfl, B2⟩
      · have k1 : ((c.st : Int) == 1) = false := by rw [beq_eq_false_iff_ne]; omega
        by_cases h22 : c.st = 2
        · have k2 : ((c.st : Int) == 2) = true := by rw [beq_iff_eq]; omega
          by_cases hk0 : c.key.size = 0
          · have : b = true := HB.out.2 ⟨H2.out, HC.out, hr, .inr ⟨h22, hk0⟩⟩
            subst this
            rw [(empty_iff _).1 hk0] at c8
            clear h22 h1 hk0
            go_wp2
            go_ret
            exact ⟨rfl, B2⟩
          · have : b = false := by
              rw [Bool.eq_false_iff]
              intro e
              obtain ⟨_, _, _, ⟨h, _⟩ | ⟨_, h⟩⟩ := HB.out.1 e
              · omega
              · exact hk0 h
            subst this
            have k3 := isEmpty_no hk0
            clear h22 h1
            go_wp2
            go_ret
            exact ⟨rfl, B2⟩
        · have k2 : ((c.st : Int) == 2) = false := by rw [beq_eq_false_iff_ne]; omega
          have : b = false := by
            rw [Bool.eq_false_iff]
            intro e
            obtain ⟨_, _, _, ⟨h, _⟩ | ⟨h, _⟩⟩ := HB.out.1 e
            · exact h1 h
            · exact h22 h
          subst this
          clear h1 h22
          go_wp2
          go_ret
          exact ⟨rfl, B2⟩
    · have er : (c.seals : Int) < (c.res : Int) := by omega
      have : b = false := by
        rw [Bool.eq_false_iff]
        intro e
        exact hr (HB.out.1 e).2.2.1
      subst this
      clear hr
      go_wp2
      go_ret
      exact ⟨rfl, B2⟩
  · have HC : Hid _ := hC
    have : b = false := by
      rw [Bool.eq_false_iff]
      intro e
      exact hC (HB.out.1 e).2.1
    subst this
    clear hC
    go_enter Tryz.func73, Tryz.ntmps73
    go_wp2_with fail
    refine (sizes_any c.alg H2.out.1 H2.out.2 _).mono ?_
    rintro e w1 ⟨rfl, hw⟩
    rw [hw]
    go_wp2_with fail
    refine (cright_no _ _ _ HC.out _).mono ?_
    rintro e w2 ⟨rfl, b2⟩
    have B2 : Below w.heap.size w w2 := ((Below.refl _ w).alloc (Nat.le_refl _) _).trans (b2.mono (by simp))
    go_wp2
    go_ret
    exact ⟨rfl, B2⟩
theorem holds_any (c : Cl) (b : Bool) (hb : b = true ↔ HoldsC c) (hz : c.key.size ≤ maxLen) (w : World) : Calls Tryz.prog 73 #[.agg (clA c)] w fun e w' => e = .returned (.bool b) ∧ Below w.heap.size w w' := by
  by_cases h : 1 ≤ c.alg ∧ c.alg ≤ 3
  · exact holds_at c b h hb hz w
  · have : b = false := by
      rw [Bool.eq_false_iff]
      intro e
      exact h (hb.1 e).1
    subst this
    exact alg_no c h w
end Go.Proofs.YtgalgjmhdbncbaaGreat
namespace Go.Proofs.YtgalgjmhdbncbaaGreat
open Go.RowKit
attribute [local go_sem ↓] Go.wp_at_zero Go.wp_at_succ

def bo (n : Nat) : Nat := if n = 0 then 0 else 20
def partsV (g n : Nat) : Array Value := #[.slice (some ⟨g, 0, none⟩) 3 3, .slice (some ⟨g, 3, none⟩) 1 1, .slice (some ⟨g, 4, none⟩) 2 2, .slice (some ⟨g, 6, none⟩) 12 12, .slice (some ⟨g, 18, none⟩) 2 2,
  .slice (some ⟨g, bo n, none⟩) n n, .slice (some ⟨g, 20 + n, none⟩) 16 16, .slice (some ⟨g, 0, none⟩) 20 20]
set_option maxRecDepth 100000 in
set_option maxHeartbeats 2000000 in
theorem cut_any (g n cap : Nat) (hn : n ≤ 100000) (hc : 36 + n ≤ cap) (w : World) : Calls Tryz.prog 86 #[.slice (some ⟨g, 0, none⟩) (36 + n) cap] w fun e w' => e = .returned (.agg (partsV g n)) ∧ Below w.heap.size w w' := by
  have hi : ((36 + n : Nat) : Int) - 16 = ((20 + n : Nat) : Int) := by omega
  have k1 : ((20 + n : Nat) : Int) ≤ ((36 + n : Nat) : Int) := by omega
  have k2 : ((36 + n : Nat) : Int) ≤ (cap : Int) := by omega
  have k3 : ((20 + n : Nat) : Int) ≤ (cap : Int) := by omega
  have k4 : (20 : Int) ≤ ((20 + n : Nat) : Int) := by omega
  go_enter Tryz.func86, Tryz.ntmps86
  go_wp2_with fail
  go_region
  have HE : Hid (#[Value.slice (some ⟨g, 0, none⟩) 3 3, Value.slice (some ⟨g, 3, none⟩) 1 1, Value.slice (some ⟨g, 4, none⟩) 2 2, Value.slice (some ⟨g, 6, none⟩) 12 12, Value.slice (some ⟨g, 18, none⟩) 2 2,
      Value.slice (if 36 + n - 16 = 20 then some ⟨g, 0, none⟩ else some ⟨g, 20, none⟩) (36 + n - 16 - 20) (36 + n - 16 - 20), Value.slice (some ⟨g, 36 + n - 16, none⟩) (36 + n - (36 + n - 16)) (36 + n - (36 + n - 16)), Value.slice (some ⟨g, 0, none⟩) 20 20] = partsV g n) := by
    show _ = _
    unfold partsV bo
    rw [show 36 + n - 16 = 20 + n by omega, show 36 + n - (20 + n) = 16 by omega, show 20 + n - 20 = n by omega]
    by_cases h0 : n = 0
    · subst h0
      rfl
    · rw [if_neg (by omega), if_neg h0]
  rw [HE.out]
  have hh : (w.alloc (.cells (partsV g n) 155)).drew.heap[w.heap.size]? = some (.cells (partsV g n) 155 (0, 0)) := heap_of_new w _ _ rfl
  go_wp2
  all_goals
    refine bodyPost_ret (v := .agg (partsV g n)) (results_cell_row Tryz.results86 _ _ w.heap.size 155 _ (0, 0) _ rfl hh Tryz.underlying155 rfl (by kernel_rfl)) rfl ⟨rfl, ?_⟩
    exact ((Below.refl _ w).alloc (Nat.le_refl _) _).drew

def cpF (f : Nat → UInt8) (off : Nat) (S : ByteArray) (j : Nat) : UInt8 := if off ≤ j ∧ j < off + S.size then sf S (j - off) else f j
theorem cpAt {ops : Array Oper} {rest : List Oper} {o : Oper} {a : Act} {w : World} {Q : Exit → Act → World → Prop} (hgd : o.guard = none) (d s : Operand)
    (ho : o.op = .call { callee := .builtin .copy, args := #[d, s], argTypes := #[105, 9] }) (g off n dLen dCap : Nat) (t : TypeId) (f : Nat → UInt8) (S : ByteArray)
    (hd : a.eval d = .slice (some ⟨g, off, none⟩) dLen dCap) (hs : a.eval s = .string S) (hg : Row w g n t (by8 f)) (hle : S.size ≤ dLen) (hn : off + S.size ≤ n)
    (h : ∀ w', Chg g w w' → Row w' g n t (by8 (cpF f off S)) → wpList Tryz.prog ops Q rest (a.put o.dst (goInt S.size)) w') : wpList Tryz.prog ops Q (o :: rest) a w := by
  refine wpList_plain hgd fun K hK => ?_
  have hrun := Lib.run_copy_row_string (P := Tryz.prog) w 105 9 o.type 5 g off dLen dCap S (arr n (by8 f)) t Tryz.underlying105 (by kernel_rfl) hg hle (by simpa [arr_size] using hn)
  have he : ((arr n (by8 f)).toList.take off ++ Lib.byteCells S.data.toList ++ (arr n (by8 f)).toList.drop (off + S.size)).toArray = arr n (by8 (cpF f off S)) := by
    have hl : (Lib.byteCells S.data.toList).length = S.size := by simp [Lib.byteCells]
    have hlen : ((arr n (by8 f)).toList.take off).length = off := by
      have : (arr n (by8 f)).toList.length = n := by simp [arr]
      rw [List.length_take]; omega
    apply Array.ext_getElem?
    intro i
    simp only [List.getElem?_toArray]
    rw [List.append_assoc, List.getElem?_append, hlen]
    by_cases h1 : i < off
    · rw [if_pos h1, List.getElem?_take, if_pos h1, arr_get _ _ _ (by omega)]
      have : (arr n (by8 f)).toList[i]? = some (by8 f i) := by simpa using arr_get n (by8 f) i (by omega)
      have e : cpF f off S i = f i := if_neg (by omega)
      rw [this]
      show some (Value.int .u8 ((f i).toNat : Int)) = some (Value.int .u8 ((cpF f off S i).toNat : Int))
      rw [e]
    · rw [if_neg h1, List.getElem?_append, hl]
      by_cases h2 : i - off < S.size
      · have e : cpF f off S i = sf S (i - off) := if_pos (by omega)
        rw [if_pos h2, byteCells_get S _ h2, arr_get _ _ _ (by omega)]
        show some (Value.int .u8 ((sf S (i - off)).toNat : Int)) = some (Value.int .u8 ((cpF f off S i).toNat : Int))
        rw [e]
      · rw [if_neg h2, List.getElem?_drop, show off + S.size + (i - off - S.size) = i by omega]
        by_cases h3 : i < n
        · rw [arr_get _ _ _ h3]
          have : (arr n (by8 f)).toList[i]? = some (by8 f i) := by simpa using arr_get n (by8 f) i h3
          have e : cpF f off S i = f i := if_neg (by omega)
          rw [this]
          show some (Value.int .u8 ((f i).toNat : Int)) = some (Value.int .u8 ((cpF f off S i).toNat : Int))
          rw [e]
        · simp [arr, h3]
  rw [he] at hrun
  unfold Oper.wp
  simp [execOp, ho, resolve, invoke, builtin, hd, hs, hrun, Result.andThen]
  exact hK _ _ (h _ (Chg.setRow _ _ _) hg.setRow)
end Go.Proofs.YtgalgjmhdbncbaaGreat
namespace Go.Proofs.YtgalgjmhdbncbaaGreat
open Go.RowKit
attribute [local go_sem ↓] Go.wp_at_zero Go.wp_at_succ

def fO : Nat → Nat | 0 => 1 | 1 => 2 | 2 => 4 | 3 => 5 | 4 => 6 | _ => 7
def fA : Nat → Nat | 0 => 1 | 1 => 2 | 2 => 8 | 3 => 10 | 4 => 11 | _ => 12
def fZ : Nat → Nat | 0 => 2 | 1 => 4 | 2 => 10 | 3 => 11 | 4 => 12 | _ => 14
theorem six {p : Nat → Prop} (h0 : p 0) (h1 : p 1) (h2 : p 2) (h3 : p 3) (h4 : p 4) (h5 : p 5) (k : Nat) (hk : k < 6) : p k := by
  rcases (by omega : k = 0 ∨ k = 1 ∨ k = 2 ∨ k = 3 ∨ k = 4 ∨ k = 5) with rfl | rfl | rfl | rfl | rfl | rfl <;> assumption
theorem fA_fZ (k : Nat) (hk : k < 6) : fA k < fZ k ∧ fZ k ≤ 14 ∧ fZ k ≤ fA k + 2 := by
  revert k
  exact six (by decide) (by decide) (by decide) (by decide) (by decide) (by decide)
def fldF (g : Nat) (j : Nat) : Value := if j % 3 = 0 then .pointer (some ⟨g, fO (j / 3), none⟩) else if j % 3 = 1 then .int .i64 (fA (j / 3)) else .int .i64 (fZ (j / 3))
set_option maxRecDepth 100000 in
set_option maxHeartbeats 4000000 in
theorem fields_any (g : Nat) (w : World) : Calls Tryz.prog 71 #[.pointer (some ⟨g, 0, none⟩)] w fun e w' => e = .returned (.slice (some ⟨w.heap.size, 0, none⟩) 6 6) ∧ Row w' w.heap.size 18 137 (fldF g) ∧ Below w.heap.size w w' := by
  go_enter Tryz.func71, Tryz.ntmps71
  go_wp2_with fail
  go_region
  go_wp2
  all_goals
    go_ret
    refine ⟨rfl, ?_, ((Below.refl _ w).alloc (Nat.le_refl _) _).drew⟩
    exact Row.lit _ _ _ _ _ _ rfl (by kernel_rfl)
theorem fld_at {w : World} {gf g : Nat} (h : Row w gf 18 137 (fldF g)) (k : Nat) (hk : k < 6) : w.cell? ⟨gf, k * 3, none⟩ = some (.pointer (some ⟨g, fO k, none⟩)) ∧ w.cell? ⟨gf, k * 3 + 1, none⟩ = some (.int .i64 (fA k)) ∧ w.cell? ⟨gf, k * 3 + 2, none⟩ = some (.int .i64 (fZ k)) := by
  refine ⟨?_, ?_, ?_⟩
  · rw [h.cell (k * 3) (by omega)]
    unfold fldF
    rw [if_pos (by omega), show k * 3 / 3 = k by omega]
  · rw [h.cell (k * 3 + 1) (by omega)]
    unfold fldF
    rw [if_neg (by omega), if_pos (by omega), show (k * 3 + 1) / 3 = k by omega]
  · rw [h.cell (k * 3 + 2) (by omega)]
    unfold fldF
    rw [if_neg (by omega), if_neg (by omega), show (k * 3 + 2) / 3 = k by omega]

theorem wrapU (n : Nat) (h : n < 18446744073709551616) : IntKind.u64.wrap (n : Int) = (n : Int) := by
  rw [IntKind.wrap_u64]; omega
theorem run_cp (w : World) (ty g off n dLen dCap : Nat) (t : TypeId) (f : Nat → UInt8) (S : ByteArray) (hg : Row w g n t (by8 f)) (hle : S.size ≤ dLen) (hn : off + S.size ≤ n) :
    (Builtin.copy_ #[105, 9] ty #[.slice (some ⟨g, off, none⟩) dLen dCap, .string S]).run Tryz.prog w = .ok (goInt S.size) (w.setRow g (arr n (by8 (cpF f off S)))) := by
  have hrun := Lib.run_copy_row_string (P := Tryz.prog) w 105 9 ty 5 g off dLen dCap S (arr n (by8 f)) t Tryz.underlying105 (by kernel_rfl) hg hle (by simpa [arr_size] using hn)
  have he : ((arr n (by8 f)).toList.take off ++ Lib.byteCells S.data.toList ++ (arr n (by8 f)).toList.drop (off + S.size)).toArray = arr n (by8 (cpF f off S)) := by
    have hl : (Lib.byteCells S.data.toList).length = S.size := by simp [Lib.byteCells]
    have hlen : ((arr n (by8 f)).toList.take off).length = off := by
      have : (arr n (by8 f)).toList.length = n := by simp [arr]
      rw [List.length_take]; omega
    apply Array.ext_getElem?
    intro i
    simp only [List.getElem?_toArray]
    rw [List.append_assoc, List.getElem?_append, hlen]
    by_cases h1 : i < off
    · rw [if_pos h1, List.getElem?_take, if_pos h1, arr_get _ _ _ (by omega)]
      have : (arr n (by8 f)).toList[i]? = some (by8 f i) := by simpa using arr_get n (by8 f) i (by omega)
      have e : cpF f off S i = f i := if_neg (by omega)
      rw [this]
      show some (Value.int .u8 ((f i).toNat : Int)) = some (Value.int .u8 ((cpF f off S i).toNat : Int))
      rw [e]
    · rw [if_neg h1, List.getElem?_append, hl]
      by_cases h2 : i - off < S.size
      · have e : cpF f off S i = sf S (i - off) := if_pos (by omega)
        rw [if_pos h2, byteCells_get S _ h2, arr_get _ _ _ (by omega)]
        show some (Value.int .u8 ((sf S (i - off)).toNat : Int)) = some (Value.int .u8 ((cpF f off S i).toNat : Int))
        rw [e]
      · rw [if_neg h2, List.getElem?_drop, show off + S.size + (i - off - S.size) = i by omega]
        by_cases h3 : i < n
        · rw [arr_get _ _ _ h3]
          have : (arr n (by8 f)).toList[i]? = some (by8 f i) := by simpa using arr_get n (by8 f) i h3
          have e : cpF f off S i = f i := if_neg (by omega)
          rw [this]
          show some (Value.int .u8 ((f i).toNat : Int)) = some (Value.int .u8 ((cpF f off S i).toNat : Int))
          rw [e]
        · simp [arr, h3]
  rw [he] at hrun
  exact hrun
def cv (c : Cl) : Nat → Nat | 0 => c.alg | 1 => c.id | 2 => c.seals | 3 => c.ahead | 4 => c.most | _ => c.res
theorem cv_at {w : World} {g : Nat} {c : Cl} (h : w.heap[g]? = some (.cells (clA c) 87 (0, 0))) : ∀ k, k < 6 → w.cell? ⟨g, fO k, none⟩ = some (.int .i64 (cv c k)) := by
  unfold clA clC at h
  obtain ⟨c0, c1, c2, c3, c4, c5, c6, c7, c8⟩ := cells9 h
  exact six c1 c2 c4 c5 c6 c7
structure ClSm (c : Cl) : Prop where
  alg : c.alg < 256
  id : c.id < 65536
  seals : c.seals < 65536
  ahead : c.ahead < 256
  most : c.most < 256
  res : c.res < 65536
  st : c.st < 256
  fix : c.fix.size = 4
  key : c.key.size ≤ 100
theorem ClOk.sm {c : Cl} (h : ClOk c) : ClSm c := by
  obtain ⟨h1, h2, h3, h4, ⟨⟨a1, a2⟩, ⟨a3, a4⟩, ⟨a5, a6⟩⟩, h6, h7⟩ := h
  exact ⟨by omega, by omega, by omega, by omega, by omega, by omega, by omega, h4, by rw [h7]; split <;> omega⟩
theorem cv_lt (c : Cl) (h : ClSm c) : ∀ k, k < 6 → cv c k < 65536 := by
  obtain ⟨h1, h2, h3, h4, h5, h6, _, _, _⟩ := h
  exact six (by show c.alg < _; omega) (by show c.id < _; omega) (by show c.seals < _; omega) (by show c.ahead < _; omega) (by show c.most < _; omega) (by show c.res < _; omega)
def kT : ByteArray := ⟨#[107]⟩
def rF (c : Cl) : Nat → Nat → UInt8
  | 0 => cpF (cpF (fun _ => 0) 0 kT) 4 c.fix
  | k + 1 => putF (rF c k) (fA k) (fZ k - fA k) (cv c k)
structure TXs (W : World) (g g5 : Nat) (c : Cl) (k : Nat) : Prop where
  cr : W.heap[g]? = some (.cells (clA c) 87 (0, 0))
  f3 : W.heap[g5]? = some (.cells #[.pointer (some ⟨g, fO k, none⟩), .int .i64 (fA k), .int .i64 (fZ k)] 137 (0, 0))
theorem TXs.drew {W : World} {g g5 k : Nat} {c : Cl} (h : TXs W g g5 c k) : TXs W.drew g g5 c k := ⟨h.cr, h.f3⟩
theorem TXs.chg {W W' : World} {g g5 k x : Nat} {c : Cl} (h : TXs W g g5 c k) (hc : Chg x W W') (h1 : g ≠ x) (h2 : g5 ≠ x) : TXs W' g g5 c k := ⟨by rw [hc.block g h1]; exact h.cr, by rw [hc.block g5 h2]; exact h.f3⟩
theorem TXs.three {W : World} {g g5 k : Nat} {c : Cl} (h : TXs W g g5 c k) : W.cell? ⟨g5, 0, none⟩ = some (.pointer (some ⟨g, fO k, none⟩)) ∧ W.cell? ⟨g5, 1, none⟩ = some (.int .i64 (fA k)) ∧ W.cell? ⟨g5, 2, none⟩ = some (.int .i64 (fZ k)) := by
  refine ⟨?_, ?_, ?_⟩
  · rw [cell_of_row _ _ 0 _ _ _ h.f3]; rfl
  · rw [cell_of_row _ _ 1 _ _ _ h.f3]; rfl
  · rw [cell_of_row _ _ 2 _ _ _ h.f3]; rfl
theorem TXs.val {W : World} {g g5 k : Nat} {c : Cl} (h : TXs W g g5 c k) (hk : k < 6) : W.cell? ⟨g, fO k, none⟩ = some (.int .i64 (cv c k)) := cv_at h.cr k hk
structure LT (w W : World) (c : Cl) (k : Nat) : Prop where
  cr : W.heap[w.heap.size]? = some (.cells (clA c) 87 (0, 0))
  run : Row W (w.heap.size + 1) 15 5 (by8 (rF c k))
  fl : Row W (w.heap.size + 1 + 1) 18 137 (fldF w.heap.size)
  bl : Below w.heap.size w W
set_option maxRecDepth 100000 in
set_option maxHeartbeats 4000000 in
theorem text_run (c : Cl) (h : ClSm c) (h0 : c.st ≠ 0) (w : World) :
    Calls Tryz.prog 74 #[.agg (clA c)] w fun e w' => e = .returned (.string ((str 15 fun j => if j = 14 then UInt8.ofNat c.st else rF c 6 j) ++ c.key)) ∧ Below w.heap.size w w' := by
  have HS : Hid _ := h
  have e0 : ((c.st : Int) == 0) = false := by rw [beq_eq_false_iff_ne]; omega
  have hmk : ∀ w, (Instr.makeSlice 105 (.int .i64 15) (.int .i64 15)).run Tryz.prog w = .ok (.slice (some ⟨w.heap.size, 0, none⟩) 15 15) (w.alloc (.cells (arr 15 z8) 5)) := fun w => mk8 15 (by omega) w
  have hst := h.st
  have hfx := h.fix
  have hky := h.key
  clear h
  unfold clA clC
  go_enter Tryz.func74, Tryz.ntmps74
  go_wp2_with (refine cpAt rfl _ _ rfl (w.heap.size + 1) 0 15 15 15 5 (fun _ => 0) kT rfl rfl (Row.new _ 15 5 z8 _ (by simp)) (by decide) (by decide) ?_; intro w3 hc3 r3)
  have q3 : w3.heap[w.heap.size]? = some (.cells (clA c) 87 (0, 0)) := by rw [hc3.block _ (by omega)]; exact heap_of_old _ _ _ _ (by simp) (heap_of_new _ _ _ rfl)
  have B3 : Below w.heap.size w w3 := Below.chg (((Below.refl _ w).alloc (Nat.le_refl _) _).alloc (by simp) _) hc3 (by omega)
  have z3 : w3.heap.size = w.heap.size + 1 + 1 := by rw [hc3.size]; simp
  have hrun := run_cp w3.drew 3 (w.heap.size + 1) 4 15 11 11 5 (cpF (fun _ => 0) 0 kT) c.fix r3.drew (by omega) (by omega)
  have c3 : w3.cell? ⟨w.heap.size, 3, none⟩ = some (.string c.fix) := by rw [cell_of_row _ _ 3 _ _ _ q3]; rfl
  clear hc3 hmk
  go_region
  have R4 : Row (w3.drew.setRow (w.heap.size + 1) (arr 15 (by8 (cpF (cpF (fun _ => 0) 0 kT) 4 c.fix)))) (w.heap.size + 1) 15 5 (by8 (rF c 0)) := r3.drew.setRow
  have q4 : (w3.drew.setRow (w.heap.size + 1) (arr 15 (by8 (cpF (cpF (fun _ => 0) 0 kT) 4 c.fix)))).heap[w.heap.size]? = some (.cells (clA c) 87 (0, 0)) := by rw [setRow_other _ _ _ _ (by omega)]; exact q3
  have B4 : Below w.heap.size w (w3.drew.setRow (w.heap.size + 1) (arr 15 (by8 (cpF (cpF (fun _ => 0) 0 kT) 4 c.fix)))) := Below.setRow B3.drew (by omega) _
  have z4 : (w3.drew.setRow (w.heap.size + 1) (arr 15 (by8 (cpF (cpF (fun _ => 0) 0 kT) 4 c.fix)))).heap.size = w.heap.size + 1 + 1 := by rw [← z3]; simp
  generalize w3.drew.setRow (w.heap.size + 1) (arr 15 (by8 (cpF (cpF (fun _ => 0) 0 kT) 4 c.fix))) = W4 at *
  clear q3 B3 z3 hrun c3 r3
  go_wp2_with fail
  refine (fields_any w.heap.size _).mono ?_
  rintro e w5 ⟨rfl, f5, b5⟩
  rw [z4] at f5 b5
  have L0 : LT w w5 c 0 := ⟨by rw [b5.block _ (by omega)]; exact q4, R4.keep b5 (by omega), f5, B4.trans (b5.mono (by omega))⟩
  rw [z4]
  clear q4 R4 B4 z4 f5 b5
  go_wp2_with fail
  go_loopw [5, 19] (fun _ i wr => ∃ k : Nat, k ≤ 6 ∧ i = .int .i64 k ∧ LT w wr c k) (fun _ i _ => 6 - (intOf i).toNat)
  case atStart => exact ⟨0, by omega, rfl, L0⟩
  case round =>
    clear L0
    obtain ⟨k, hk, rfl, hL⟩ := hrel
    by_cases hk6 : k < 6
    · obtain ⟨y0, y1, y2⟩ := fld_at hL.fl k hk6
      obtain ⟨a1, a2, a3⟩ := fA_fZ k hk6
      have hz := hL.fl.lt
      have X0 : TXs (wr.alloc (.cells #[.pointer (some ⟨w.heap.size, fO k, none⟩), .int .i64 (fA k), .int .i64 (fZ k)] 137)) w.heap.size wr.heap.size c k := ⟨heap_of_old _ _ _ _ (by omega) hL.cr, heap_of_new _ _ _ rfl⟩
      have hcv := cv_lt c HS.out k hk6
      have hwu : IntKind.u64.wrap ((cv c k : Nat) : Int) = ((cv c k : Nat) : Int) := wrapU (cv c k) (by omega)
      have i1 : ((fZ k : Nat) : Int) ≤ 15 := by omega
      have i2 : fA k ≤ fZ k := by omega
      have i3 : ¬ (15 = fA k) := by omega
      go_wp2_with fail
      suffices H : ∀ W, TXs W w.heap.size wr.heap.size c k → Row W (w.heap.size + 1) 15 5 (by8 (rF c k)) → Row W (w.heap.size + 1 + 1) 18 137 (fldF w.heap.size) → Below w.heap.size w W → Code.wp Tryz.prog _ _ _ W from H _ X0 (hL.run.alloc _) (hL.fl.alloc _) (hL.bl.alloc (by omega) _)
      clear X0 hL y0 y1 y2
      intro W hX hR hF hB
      have HR : Hid _ := hR
      have HF : Hid _ := hF
      have HB : Hid _ := hB
      clear hR hF hB
      refine wp_region_held_drew (S := fun W' => TXs W' w.heap.size wr.heap.size c k) (by kernel_rfl) hX.drew (fun hHeld => ?_)
      refine tk 0 ?v1 ?y1 ?r1
      case y1 => (intro W' hW; go_simp; try with_reducible rfl)
      refine tk 1 ?v2 ?y2 ?r2
      case y2 => (intro W' hW; go_simp; try with_reducible rfl)
      refine tk 2 ?v3 ?y3 ?r3
      case y3 => (intro W' hW; obtain ⟨y0, y1, y2⟩ := hW.three; go_simp; try with_reducible rfl)
      refine tk 3 ?v4 ?y4 ?r4
      case y4 => (intro W' hW; go_simp; try with_reducible rfl)
      refine tk 4 ?v5 ?y5 ?r5
      case y5 => (intro W' hW; obtain ⟨y0, y1, y2⟩ := hW.three; go_simp; try with_reducible rfl)
      refine tk 5 ?v6 ?y6 ?r6
      case y6 => (intro W' hW; go_simp; try with_reducible rfl)
      refine tk 6 ?v7 ?y7 ?r7
      case y7 => (intro W' hW; go_simp; try with_reducible rfl)
      refine tk 7 ?v8 ?y8 ?r8
      case y8 => (intro W' hW; obtain ⟨y0, y1, y2⟩ := hW.three; go_simp; try with_reducible rfl)
      refine tk 8 ?v9 ?y9 ?r9
      case y9 => (intro W' hW; go_simp; try with_reducible rfl)
      refine tk 9 ?v10 ?y10 ?r10
      case y10 => (intro W' hW; have hv := hW.val hk6; go_simp; try with_reducible rfl)
      refine tk 10 ?v11 ?y11 ?r11
      case y11 => (intro W' hW; go_simp; try with_reducible rfl)
      refine wpAnyH_ready (rs := [11]) (by kernel_rfl) (by simp) ?_
      refine AllReadyH.cons rfl (fun K hK => ?_) AllReadyH.nil
      go_simp
      refine (put_any (w.heap.size + 1) (fA k) (fZ k - fA k) (15 - fA k) 15 5 (rF c k) (cv c k) (by omega) (by omega) (by omega) _ (Row.drew HR.out)).mono ?_
      rintro e wb ⟨rfl, hc, hr⟩
      go_wp2_with fail
      refine hK.out _ _ (TXs.chg hHeld hc (by omega) (by omega)) (fun hHeld => ?_)
      clear hK K
      refine wpAnyH_done (by kernel_rfl) ?_ _
      have hL2 : LT w wb c (k + 1) := ⟨(TXs.chg hX.drew hc (by omega) (by omega)).cr, hr, Row.chg (Row.drew HF.out) hc (by omega), Below.chg (Below.drew HB.out) hc (by omega)⟩
      clear hHeld hX HR HF HB hc hr
      go_wp2
      exact ⟨⟨k + 1, by omega, by go_num, hL2⟩, by simp [intOf]; omega⟩
    · have : k = 6 := by omega
      subst this
      have q0 : wr.cell? ⟨w.heap.size, 0, none⟩ = some (.int .i64 c.st) := by rw [cell_of_row _ _ 0 _ _ _ hL.cr]; rfl
      have q8 : wr.cell? ⟨w.heap.size, 8, none⟩ = some (.string c.key) := by rw [cell_of_row _ _ 8 _ _ _ hL.cr]; rfl
      have f14 := hL.run.frozen 14
      have g14 := hL.run.cell 14 (by omega)
      have hw8 : ((UInt8.ofNat c.st).toNat : Int) = (c.st : Int) := by rw [UInt8.toNat_ofNat']; omega
      have R6 : Row (wr.setCell ⟨w.heap.size + 1, 14, none⟩ (.int .u8 (c.st : Int))) (w.heap.size + 1) 15 5 (by8 fun j => if j = 14 then UInt8.ofNat c.st else rF c 6 j) := by
        refine Row.congr (Row.set hL.run 14 _) (fun j hj => ?_)
        by_cases e : j = 14
        · subst e; simp only [by8, if_true]; rw [hw8]
        · simp [by8, e]
      have hcv := conv8 _ _ 15 15 5 _ 15 R6 (Nat.le_refl _)
      have u8 : (wr.setCell ⟨w.heap.size + 1, 14, none⟩ (.int .u8 (c.st : Int))).cell? ⟨w.heap.size, 8, none⟩ = some (.string c.key) := by
        have := heap_skip wr (w.heap.size + 1) w.heap.size 14 (.int .u8 (c.st : Int)) (by omega)
        rw [World.cell?_of_block (w := wr) this]; exact q8
      have BB := hL.bl
      have hz15 := str_size 15 (fun j => if j = 14 then UInt8.ofNat c.st else rF c 6 j)
      clear hw8
      go_wp2
      go_ret
      exact ⟨rfl, Below.setCell BB (by dsimp only; omega) _⟩
set_option maxRecDepth 100000 in
set_option maxHeartbeats 1000000 in
theorem text_zero (w : World) : Calls Tryz.prog 74 #[.agg (clA zCl)] w fun e w' => e = .returned (.string ⟨#[]⟩) ∧ Below w.heap.size w w' := by
  unfold clA clC zCl
  go_enter Tryz.func74, Tryz.ntmps74
  go_wp2
  go_ret
  exact ⟨rfl, (Below.refl _ _).alloc (Nat.le_refl _) _⟩
end Go.Proofs.YtgalgjmhdbncbaaGreat
namespace Go.Proofs.YtgalgjmhdbncbaaGreat
open Go.RowKit
attribute [local go_sem ↓] Go.wp_at_zero Go.wp_at_succ
attribute [local go_sem ↓] al87 stw87 bs_wrap
attribute [local go_sem] run_al87 run_stT87 stN_cl blk_new blk_at blk_old blk_drew blk_setCell blk_setRow alloc_setRow

set_option maxRecDepth 100000 in
set_option maxHeartbeats 1000000 in
theorem of_empty (w : World) : Calls Tryz.prog 33 #[.string ⟨#[]⟩] w fun e w' => e = .returned (.tuple #[.agg (clA zCl), .bool true]) ∧ Below w.heap.size w w' := by
  go_enter Tryz.func33, Tryz.ntmps33
  go_wp2
  refine bodyPost_ret (res87 Tryz.results33 _ _ w.heap.size (clA zCl) _ rfl rfl rfl (heap_of_new _ _ _ rfl)) rfl ⟨rfl, ?_⟩
  exact (Below.refl _ w).alloc (Nat.le_refl _) _
set_option maxRecDepth 100000 in
set_option maxHeartbeats 1000000 in
theorem of_short (s : ByteArray) (h0 : s.size ≠ 0) (h : s.size < 15) (w : World) : Calls Tryz.prog 33 #[.string s] w fun e w' => e = .returned (.tuple #[.agg (clA zCl), .bool false]) ∧ Below w.heap.size w w' := by
  have k0 := isEmpty_no h0
  go_enter Tryz.func33, Tryz.ntmps33
  go_wp2
  refine bodyPost_ret (res87 Tryz.results33 _ _ w.heap.size (clA zCl) _ rfl rfl rfl (heap_of_new _ _ _ rfl)) rfl ⟨rfl, ?_⟩
  exact (Below.refl _ w).alloc (Nat.le_refl _) _
theorem kT_list : kT.toList = [107] := by rw [ByteArray.toList_eq]; rfl
theorem mark_ne (s : ByteArray) (h : 15 ≤ s.size) (hk : sf s 0 ≠ 107) : ((s.extract 0 1).toList == [107]) = false := by
  rw [← kT_list]
  apply beq_ne
  intro e
  have e2 : sf (s.extract 0 1) 0 = sf kT 0 := by rw [e]
  rw [sf_cut _ _ _ _ (by omega) (by omega)] at e2
  exact hk e2
theorem mark_eq (s : ByteArray) (h : 15 ≤ s.size) (hk : sf s 0 = 107) : s.extract 0 1 = kT := by
  apply bytes_ext
  · rw [cut_size _ _ _ (by omega)]; rfl
  · intro j hj
    rw [cut_size _ _ _ (by omega)] at hj
    have : j = 0 := by omega
    subst this
    rw [sf_cut _ _ _ _ (by omega) (by omega)]
    exact hk
set_option maxRecDepth 100000 in
set_option maxHeartbeats 1000000 in
theorem of_mark (s : ByteArray) (h : 15 ≤ s.size) (hz : s.size ≤ maxLen) (hk : sf s 0 ≠ 107) (w : World) : Calls Tryz.prog 33 #[.string s] w fun e w' => e = .returned (.tuple #[.agg (clA zCl), .bool false]) ∧ Below w.heap.size w w' := by
  have k0 := isEmpty_no (a := s) (by omega)
  have k1 := mark_ne s h hk
  have HZ : Hid _ := hz
  clear hz hk
  go_enter Tryz.func33, Tryz.ntmps33
  go_wp2
  refine bodyPost_ret (res87 Tryz.results33 _ _ w.heap.size (clA zCl) _ rfl rfl rfl (heap_of_new _ _ _ rfl)) rfl ⟨rfl, ?_⟩
  exact (Below.refl _ w).alloc (Nat.le_refl _) _
def vk (s : ByteArray) (k : Nat) : Nat := valF (sf s) (fA k) (fZ k - fA k)
def rdC (s : ByteArray) (k : Nat) : Cl := ⟨(sf s 14).toNat, if 0 < k then vk s 0 else 0, if 1 < k then vk s 1 else 0, s.extract 4 8, if 2 < k then vk s 2 else 0, if 3 < k then vk s 3 else 0, if 4 < k then vk s 4 else 0, if 5 < k then vk s 5 else 0, s.extract 15 s.size⟩
theorem valF_shift (f : Nat → UInt8) (a : Nat) : ∀ n, valF (fun j => f (a + j)) 0 n = valF f a n
  | 0 => rfl
  | n + 1 => by
    show valF (fun j => f (a + j)) 0 n * 256 + (f (a + (0 + n))).toNat = valF f a n * 256 + (f (a + n)).toNat
    rw [valF_shift f a n, Nat.zero_add]
theorem rd_set (w : World) (g : Nat) (s : ByteArray) (k : Nat) (hk : k < 6) (h : w.heap[g]? = some (.cells (clA (rdC s k)) 87 (0, 0))) : (w.setCell ⟨g, fO k, none⟩ (.int .i64 (vk s k))).heap[g]? = some (.cells (clA (rdC s (k + 1))) 87 (0, 0)) := by
  have h1 := heap_setCell_same w g (fO k) _ 87 (.int .i64 (vk s k)) h
  rw [h1]
  congr 2
  revert k
  refine six ?_ ?_ ?_ ?_ ?_ ?_
  all_goals intros; simp [clA, clC, rdC, fO]
theorem vk_lt (s : ByteArray) (k : Nat) (hk : k < 6) : vk s k < 65536 := by
  have h := valF_lt (sf s) (fA k) (fZ k - fA k)
  obtain ⟨a1, a2, a3⟩ := fA_fZ k hk
  have : (256 : Nat) ^ (fZ k - fA k) ≤ 256 ^ 2 := Nat.pow_le_pow_right (by omega) (by omega)
  have e : (256 : Nat) ^ 2 = 65536 := rfl
  unfold vk
  omega
theorem wrap_sm (n : Nat) (h : n < 9223372036854775808) : IntKind.i64.wrap (n : Int) = (n : Int) := by
  have := wrap_i64_ediv (n : Int) 1 (by omega) (by omega) (by omega)
  rwa [Int.ediv_one] at this
structure OXs (W : World) (g g5 : Nat) (k : Nat) : Prop where
  f3 : W.heap[g5]? = some (.cells #[.pointer (some ⟨g, fO k, none⟩), .int .i64 (fA k), .int .i64 (fZ k)] 137 (0, 0))
theorem OXs.lt {W : World} {g g5 k : Nat} (h : OXs W g g5 k) : g5 < W.heap.size := by
  rcases Nat.lt_or_ge g5 W.heap.size with hlt | hge
  · exact hlt
  · have := h.f3; rw [Array.getElem?_eq_none hge] at this; cases this
theorem OXs.drew {W : World} {g g5 k : Nat} (h : OXs W g g5 k) : OXs W.drew g g5 k := ⟨h.f3⟩
theorem OXs.alloc {W : World} {g g5 k : Nat} (h : OXs W g g5 k) (o : Obj) : OXs (W.alloc o) g g5 k := ⟨heap_of_old _ _ _ _ h.lt h.f3⟩
theorem OXs.set {W : World} {g g5 k j : Nat} {v : Value} (h : OXs W g g5 k) (hne : g5 ≠ g) : OXs (W.setCell ⟨g, j, none⟩ v) g g5 k := ⟨by rw [heap_skip _ _ _ _ _ hne]; exact h.f3⟩
theorem OXs.three {W : World} {g g5 k : Nat} (h : OXs W g g5 k) : W.cell? ⟨g5, 0, none⟩ = some (.pointer (some ⟨g, fO k, none⟩)) ∧ W.cell? ⟨g5, 1, none⟩ = some (.int .i64 (fA k)) ∧ W.cell? ⟨g5, 2, none⟩ = some (.int .i64 (fZ k)) := by
  refine ⟨?_, ?_, ?_⟩
  · rw [cell_of_row _ _ 0 _ _ _ h.f3]; rfl
  · rw [cell_of_row _ _ 1 _ _ _ h.f3]; rfl
  · rw [cell_of_row _ _ 2 _ _ _ h.f3]; rfl
structure CS (W : World) (g : Nat) (c : Cl) : Prop where
  cr : W.heap[g]? = some (.cells #[.int .i64 c.st, .int .i64 c.alg, .int .i64 c.id, .string c.fix, .int .i64 c.seals, .int .i64 c.ahead, .int .i64 c.most, .int .i64 c.res, .string c.key] 87 (0, 0))
theorem CS.drew {W : World} {g : Nat} {c : Cl} (h : CS W g c) : CS W.drew g c := ⟨h.cr⟩
structure LO (w W : World) (s : ByteArray) (k : Nat) : Prop where
  z : W.heap[w.heap.size]? = some (.cells zclA 87 (0, 0))
  cr : W.heap[w.heap.size + 1]? = some (.cells (clA (rdC s k)) 87 (0, 0))
  fl : Row W (w.heap.size + 1 + 1) 18 137 (fldF (w.heap.size + 1))
  bl : Below w.heap.size w W
set_option maxRecDepth 100000 in
set_option maxHeartbeats 4000000 in
theorem of_read (s : ByteArray) (h : 15 ≤ s.size) (hz : s.size ≤ maxLen) (hk : sf s 0 = 107) (b : Bool) (hb : b = true ↔ HoldsC (rdC s 6)) (w : World) : Calls Tryz.prog 33 #[.string s] w fun e w' => e = .returned (.tuple #[.agg (clA (rdC s 6)), .bool b]) ∧ Below w.heap.size w w' := by
  have k0 := isEmpty_no (a := s) (by omega)
  have k1 : ((s.extract 0 1).toList == [107]) = true := by rw [mark_eq s h hk, kT_list]; rfl
  have HZ : Hid _ := hz
  have HB : Hid _ := hb
  have k14 : s[14] = sf s 14 := by
    unfold sf
    show s.data[14] = _
    simp [Array.getElem?_eq_getElem (show 14 < s.data.size from by have : s.data.size = s.size := rfl; omega)]
  have h14 := (sf s 14).toNat_lt
  have hw14 : wrap64 (((sf s 14).toNat : Nat) : Int) = (((sf s 14).toNat : Nat) : Int) := by unfold wrap64; omega
  clear hz hk hb
  go_enter Tryz.func33, Tryz.ntmps33
  go_wp2_with fail
  go_region
  have W3 : (((w.alloc (.cells zclA 87)).alloc (.cells zclA 87)).drew.setRow (w.heap.size + 1) (clC (((sf s 14).toNat : Nat) : Int) 0 0 (s.extract 4 8) 0 0 0 0 (s.extract 15 s.size))).heap[w.heap.size + 1]? = some (.cells (clA (rdC s 0)) 87 (0, 0)) := setRow_heap _ _ _ _ 87 _ (heap_of_new (w.alloc (.cells zclA 87)) (.cells zclA 87) _ (by simp))
  have z3 : (((w.alloc (.cells zclA 87)).alloc (.cells zclA 87)).drew.setRow (w.heap.size + 1) (clC (((sf s 14).toNat : Nat) : Int) 0 0 (s.extract 4 8) 0 0 0 0 (s.extract 15 s.size))).heap[w.heap.size]? = some (.cells zclA 87 (0, 0)) := by
    rw [setRow_other _ _ _ _ (by omega)]; exact heap_of_old (w.alloc (.cells zclA 87)) _ _ _ (by simp) (heap_of_new _ _ _ rfl)
  have B3 : Below w.heap.size w (((w.alloc (.cells zclA 87)).alloc (.cells zclA 87)).drew.setRow (w.heap.size + 1) (clC (((sf s 14).toNat : Nat) : Int) 0 0 (s.extract 4 8) 0 0 0 0 (s.extract 15 s.size))) := Below.setRow ((((Below.refl _ w).alloc (Nat.le_refl _) _).alloc (by simp) _)).drew (by omega) _
  have y3 : (((w.alloc (.cells zclA 87)).alloc (.cells zclA 87)).drew.setRow (w.heap.size + 1) (clC (((sf s 14).toNat : Nat) : Int) 0 0 (s.extract 4 8) 0 0 0 0 (s.extract 15 s.size))).heap.size = w.heap.size + 1 + 1 := by simp
  go_wp2_with fail
  generalize (((w.alloc (.cells zclA 87)).alloc (.cells zclA 87)).drew.setRow (w.heap.size + 1) (clC (((sf s 14).toNat : Nat) : Int) 0 0 (s.extract 4 8) 0 0 0 0 (s.extract 15 s.size))) = W4 at *
  refine (fields_any (w.heap.size + 1) _).mono ?_
  rintro e w5 ⟨rfl, f5, b5⟩
  rw [y3] at f5 b5
  rw [y3]
  have L0 : LO w w5 s 0 := ⟨by rw [b5.block _ (by omega)]; exact z3, by rw [b5.block _ (by omega)]; exact W3, f5, B3.trans (b5.mono (by omega))⟩
  clear W3 z3 B3 y3 f5 b5
  go_wp2_with fail
  go_loopw [6, 29] (fun _ i wr => ∃ k : Nat, k ≤ 6 ∧ i = .int .i64 k ∧ LO w wr s k) (fun _ i _ => 6 - (intOf i).toNat)
  case atStart => exact ⟨0, by omega, rfl, L0⟩
  case round =>
    clear L0
    obtain ⟨k, hk, rfl, hL⟩ := hrel
    by_cases hk6 : k < 6
    · obtain ⟨y0, y1, y2⟩ := fld_at hL.fl k hk6
      obtain ⟨a1, a2, a3⟩ := fA_fZ k hk6
      have hzf := hL.fl.lt
      have X0 : OXs (wr.alloc (.cells #[.pointer (some ⟨w.heap.size + 1, fO k, none⟩), .int .i64 (fA k), .int .i64 (fZ k)] 137)) (w.heap.size + 1) wr.heap.size k := ⟨heap_of_new _ _ _ rfl⟩
      have i1 : ((fZ k : Nat) : Int) ≤ (s.size : Int) := by omega
      have i2 : fA k ≤ fZ k := by omega
      have hpz : (s.extract (fA k) (fZ k)).size = fZ k - fA k := cut_size _ _ _ (by omega)
      have hpc : ∀ j, j < fZ k - fA k → sf (s.extract (fA k) (fZ k)) j = sf s (fA k + j) := fun j hj => sf_cut _ _ _ _ (by omega) (by omega)
      have hvk : valF (fun j => sf s (fA k + j)) 0 (fZ k - fA k) = vk s k := valF_shift (sf s) (fA k) _
      have HPC : Hid _ := hpc
      have HPZ : Hid _ := hpz
      have HVK : Hid _ := hvk
      clear hpc hpz hvk
      go_wp2_with fail
      suffices H : ∀ W, OXs W (w.heap.size + 1) wr.heap.size k → LO w W s k → Code.wp Tryz.prog _ _ _ W from H _ X0 ⟨heap_of_old _ _ _ _ (by omega) hL.z, heap_of_old _ _ _ _ (by omega) hL.cr, hL.fl.alloc _, hL.bl.alloc (by omega) _⟩
      clear X0 hL y0 y1 y2
      intro W hX hL
      have hgl : w.heap.size + 1 < W.heap.size := by
        have := Row.lt hL.fl
        omega
      have hvl := vk_lt s k hk6
      have hw1 : IntKind.i64.wrap ((vk s k : Nat) : Int) = ((vk s k : Nat) : Int) := wrap_sm _ (by omega)
      have HL : Hid _ := hL
      clear hL
      refine wp_region_held_drew (S := fun W' => OXs W' (w.heap.size + 1) wr.heap.size k) (by kernel_rfl) hX.drew (fun hHeld => ?_)
      refine tk 0 ?v1 ?y1 ?r1
      case y1 => (intro W' hW; go_simp; try with_reducible rfl)
      refine tk 1 ?v2 ?y2 ?r2
      case y2 => (intro W' hW; obtain ⟨y0, y1, y2⟩ := hW.three; go_simp; try with_reducible rfl)
      refine tk 2 ?v3 ?y3 ?r3
      case y3 => (intro W' hW; go_simp; try with_reducible rfl)
      refine tk 3 ?v4 ?y4 ?r4
      case y4 => (intro W' hW; go_simp; try with_reducible rfl)
      refine tk 4 ?v5 ?y5 ?r5
      case y5 => (intro W' hW; obtain ⟨y0, y1, y2⟩ := hW.three; go_simp; try with_reducible rfl)
      refine tk 5 ?v6 ?y6 ?r6
      case y6 => (intro W' hW; go_simp; try with_reducible rfl)
      refine tk 6 ?v7 ?y7 ?r7
      case y7 => (intro W' hW; obtain ⟨y0, y1, y2⟩ := hW.three; go_simp; try with_reducible rfl)
      refine tk 7 ?v8 ?y8 ?r8
      case y8 => (intro W' hW; go_simp; try with_reducible rfl)
      try simp only [Act.put, List.getElem_toArray, List.getElem_cons_zero, List.getElem_cons_succ, List.setIfInBounds_toArray, List.set_cons_zero, List.set_cons_succ]
      refine wpAnyH_ready (rs := [8]) (by kernel_rfl) (by simp) ?_
      refine AllReadyH.cons rfl (fun K hK => ?_) ?nil8
      case nil8 => exact AllReadyH.nil
      obtain ⟨cap, o, hcap, hrun, hBy⟩ := bs_run (s.extract (fA k) (fZ k)) W.drew
      replace hrun : Sem.run Tryz.prog (Bs (.string (s.extract (fA k) (fZ k)))) W.drew = _ := hrun
      rw [HPZ.out] at hrun hBy hcap
      have HBy : Hid _ := hBy
      clear hBy
      go_simp
      refine hK.out _ _ (OXs.alloc (OXs.drew hHeld) o) (fun hHeld => ?_)
      clear hK K
      refine wpAnyH_ready (rs := [9]) (by kernel_rfl) (by simp) ?_
      refine AllReadyH.cons rfl (fun K hK => ?_) ?nil9
      case nil9 => exact AllReadyH.nil
      go_simp
      refine (nof_cells W.heap.size 0 (fZ k - fA k) cap (fun j => sf s (fA k + j)) (by omega) hcap _ (fun j hj => by have := (HBy.out.2 j hj).1; rw [HPC.out j hj] at this; rw [Nat.zero_add]; exact this)).mono ?_
      rintro e wa ⟨rfl, hw⟩
      subst hw
      go_wp2_with fail
      refine hK.out _ _ hHeld (fun hHeld => ?_)
      clear hK K
      rw [HVK.out]
      refine tk 10 ?v9 ?y9 ?r9
      case y9 => (intro W' hW; go_simp; try with_reducible rfl)
      refine tk 11 ?v10 ?y10 ?r10
      case y10 => (intro W' hW; go_simp; try with_reducible rfl)
      try simp only [Act.put, List.getElem_toArray, List.getElem_cons_zero, List.getElem_cons_succ, List.setIfInBounds_toArray, List.set_cons_zero, List.set_cons_succ]
      refine wpAnyH_ready (rs := [12]) (by kernel_rfl) (by simp) ?_
      refine AllReadyH.cons rfl (fun K hK => ?_) ?nil12
      case nil12 => exact AllReadyH.nil
      have hcr : (W.alloc o).drew.drew.heap[w.heap.size + 1]? = some (.cells (clA (rdC s k)) 87 (0, 0)) := heap_of_old W _ _ _ hgl HL.out.cr
      have hc0 := cv_at hcr k hk6
      have hf0 := frozen_of_row _ _ (fO k) _ _ hcr
      go_simp
      refine hK.out _ _ (OXs.drew (OXs.drew (OXs.alloc (OXs.set hX (by omega)) o))) (fun hHeld => ?_)
      clear hK K
      refine wpAnyH_done (by kernel_rfl) ?_ _
      have hL2 : LO w ((W.setCell ⟨w.heap.size + 1, fO k, none⟩ (.int .i64 (vk s k))).alloc o).drew.drew s (k + 1) := by
        have hL := HL.out
        refine ⟨heap_of_old (W.setCell ⟨w.heap.size + 1, fO k, none⟩ (.int .i64 (vk s k))) o _ _ (by simp; omega) ?_, heap_of_old (W.setCell ⟨w.heap.size + 1, fO k, none⟩ (.int .i64 (vk s k))) o _ _ (by simp; omega) (rd_set W _ s k hk6 hL.cr), Row.alloc (Row.other hL.fl (by omega)) o, ((Below.setCell hL.bl (by dsimp only; omega) _).alloc (by have := hL.bl.size; simp; omega) o).drew.drew⟩
        rw [heap_skip _ _ _ _ _ (by omega)]; exact hL.z
      clear hHeld hX HL HBy hcr hc0 hf0 hrun
      go_wp2
      exact ⟨⟨k + 1, by omega, by go_num, hL2⟩, by simp [intOf]; omega⟩
    · have : k = 6 := by omega
      subst this
      have hL2 := hL
      have hcr := hL.cr
      have hzr := hL.z
      have hkz : (rdC s 6).key.size ≤ maxLen := by
        show (s.extract 15 s.size).size ≤ _
        rw [cut_size _ _ _ (by omega)]
        have := HZ.out
        omega
      have hh := fun W => holds_any (rdC s 6) b HB.out hkz W
      unfold clA clC at hh hcr
      have HH : Hid _ := hh
      clear hh hkz hL
      have hBl := hL2.bl
      have hlt2 := Row.lt hL2.fl
      have hX : CS wr (w.heap.size + 1) (rdC s 6) := ⟨hcr⟩
      clear hL2 hcr
      go_wp2_with fail
      refine wp_region_held_drew (S := fun W' => CS W' (w.heap.size + 1) (rdC s 6)) (by kernel_rfl) hX.drew (fun hHeld => ?_)
      refine tk 0 ?v51 ?y51 ?r51
      case y51 => (intro W' hW; obtain ⟨c0, c1, c2, c3, c4, c5, c6, c7, c8⟩ := cells9 hW.cr; go_simp; try with_reducible rfl)
      refine tk 1 ?v52 ?y52 ?r52
      case y52 => (intro W' hW; obtain ⟨c0, c1, c2, c3, c4, c5, c6, c7, c8⟩ := cells9 hW.cr; go_simp; try with_reducible rfl)
      try simp only [Act.put, List.getElem_toArray, List.getElem_cons_zero, List.getElem_cons_succ, List.setIfInBounds_toArray, List.set_cons_zero, List.set_cons_succ]
      refine wpAnyH_ready (rs := [2]) (by kernel_rfl) (by simp) ?_
      refine AllReadyH.cons rfl (fun K hK => ?_) ?nil2
      case nil2 => exact AllReadyH.nil
      go_simp
      refine (HH.out _).mono ?_
      rintro e wa ⟨rfl, ba⟩
      have hza : wa.heap[w.heap.size]? = some (.cells zclA 87 (0, 0)) := by rw [ba.block _ (by show _ < wr.heap.size; omega)]; exact hzr
      have qa : blk wa w.heap.size = some (.cells zclA 87 (0, 0)) := hza
      have Ba : Below w.heap.size w wa := hBl.drew.trans (ba.mono (by show _ ≤ wr.heap.size; omega))
      have hXa : CS wa (w.heap.size + 1) (rdC s 6) := ⟨by rw [ba.block _ (by show _ < wr.heap.size; omega)]; exact hX.cr⟩
      go_wp2_with fail
      refine hK.out _ _ hXa (fun hHeld => ?_)
      clear hK K
      refine wpAnyH_ready (rs := [3]) (by kernel_rfl) (by simp) ?_
      refine AllReadyH.cons rfl (fun K hK => ?_) ?nil3
      case nil3 => exact AllReadyH.nil
      go_simp
      refine hK.out _ _ ⟨by rw [setRow_other _ _ _ _ (by omega)]; exact hXa.cr⟩ (fun hHeld => ?_)
      clear hK K
      refine tk 4 ?v53 ?y53 ?r53
      case y53 => (intro W' hW; go_simp; try with_reducible rfl)
      try simp only [Act.put, List.getElem_toArray, List.getElem_cons_zero, List.getElem_cons_succ, List.setIfInBounds_toArray, List.set_cons_zero, List.set_cons_succ]
      refine wpAnyH_done (by kernel_rfl) ?_ _
      go_wp2
      refine bodyPost_ret (res87 Tryz.results33 _ _ w.heap.size (clA (rdC s 6)) _ rfl rfl rfl (setRow_heap _ _ _ _ 87 _ hza)) rfl ⟨rfl, ?_⟩
      exact Below.setRow Ba (Nat.le_refl _) _
end Go.Proofs.YtgalgjmhdbncbaaGreat
