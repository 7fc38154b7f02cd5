import Derived.Test.YtgalgjmhdbncbabGreatZb03
import Derived.Test.YtgalgjmhdbncbabGreatZb14
namespace Go.Proofs.YtgalgjmhdbncbabGreat
open Go.RowKit
attribute [local go_sem ↓] Go.wp_at_zero Go.wp_at_succ

structure Cl where
  st : Nat
  alg : Nat
  id : Nat
  fix : ByteArray
  seals : Nat
  ahead : Nat
  most : Nat
  res : Nat
  key : ByteArray
def zCl : Cl := ⟨0, 0, 0, ⟨#[]⟩, 0, 0, 0, 0, ⟨#[]⟩⟩
def clC (a b c : Int) (f : ByteArray) (d e g h : Int) (k : ByteArray) : Array Value := #[.int .i64 a, .int .i64 b, .int .i64 c, .string f, .int .i64 d, .int .i64 e, .int .i64 g, .int .i64 h, .string k]
def clA (c : Cl) : Array Value := clC c.st c.alg c.id c.fix c.seals c.ahead c.most c.res c.key
def zclA : Array Value := #[.int .i64 0, .int .i64 0, .int .i64 0, .string ⟨#[]⟩, .int .i64 0, .int .i64 0, .int .i64 0, .int .i64 0, .string ⟨#[]⟩]
theorem al87 : Instr.alloc 100 true (.tuple #[]) = Al 100 := rfl
theorem run_al87 (w : World) : Sem.run Tryz.prog (Al 100) w = .ok (.pointer (some ⟨w.heap.size, 0, none⟩)) (w.alloc (.cells zclA 100)) := by kernel_rfl
theorem stw87 (p v : Value) : Instr.storeAt 100 p v = StT 100 p v := rfl
theorem run_stT87 (g : Nat) (v : Value) (w : World) : Sem.run Tryz.prog (StT 100 (.pointer (some ⟨g, 0, none⟩)) v) w = stN (blk w g) 9 v g w (stO Tryz.prog 100 v g w) := run_stT 100 9 (by kernel_rfl) g v w
theorem stN_cl (a b c : Int) (f : ByteArray) (d e x h : Int) (k : ByteArray) (g : Nat) (w : World) (r : Result Unit) :
    stN (some (.cells zclA 100 (0, 0))) 9 (.agg #[.int .i64 a, .int .i64 b, .int .i64 c, .string f, .int .i64 d, .int .i64 e, .int .i64 x, .int .i64 h, .string k]) g w r
      = .ok () (w.setRow g (clC a b c f d e x h k)) := by
  unfold stN
  exact if_pos ⟨rfl, rfl, rfl, by simp [Value.oneCell']⟩
theorem res87 {fn : Func} {p u : Tmp} (h : fn.results = #[.cell p 100, .tmp u]) (tmps : Array Value) (w : World) (g : Nat) (cs : Array Value) (v : Value) (hcs : cs.size = 9)
    (hp : tmps.getD p undef = .pointer (some ⟨g, 0, none⟩)) (hv : tmps.getD u undef = v) (hg : w.heap[g]? = some (.cells cs 100 (0, 0))) : (results fn tmps).run Tryz.prog w = .ok (.tuple #[.agg cs, v]) w := by
  have hp' : tmps[p]?.getD undef = .pointer (some ⟨g, 0, none⟩) := by simpa using hp
  have hv' : tmps[u]?.getD undef = v := by simpa using hv
  have hl := run_loadVar_row (P := Tryz.prog) w g 100 100 _ (0, 0) _ hg Tryz.underlying100 rfl (by rw [hcs]; kernel_rfl)
  simp [results, h, hp', hv', asAddr, hl]
theorem clC_size (a b c : Int) (f : ByteArray) (d e g h : Int) (k : ByteArray) : (clC a b c f d e g h k).size = 9 := rfl
attribute [local go_sem ↓] al87 stw87
attribute [local go_sem] run_al87 run_stT87 stN_cl blk_new blk_at blk_old blk_drew blk_setCell blk_setRow alloc_setRow

def CfgOk (s a m : Int) : Prop := (1 ≤ s ∧ s ≤ 65535) ∧ (1 ≤ a ∧ a ≤ 100) ∧ (0 ≤ m ∧ m ≤ 200)
set_option maxRecDepth 100000 in
set_option maxHeartbeats 1000000 in
theorem cright_yes (s a m : Int) (h : CfgOk s a m) (w : World) : Calls Tryz.prog 99 #[.agg #[.int .i64 s, .int .i64 a, .int .i64 m]] w fun e w' => e = .returned (.bool true) ∧ Below w.heap.size w w' := by
  obtain ⟨⟨h1, h2⟩, ⟨h3, h4⟩, ⟨h5, h6⟩⟩ := h
  go_enter Tryz.func99, Tryz.ntmps99
  go_wp2
  go_ret
  exact ⟨rfl, (Below.refl _ _).alloc (Nat.le_refl _) _⟩
set_option maxRecDepth 100000 in
set_option maxHeartbeats 1000000 in
theorem cright_no (s a m : Int) (h : ¬ CfgOk s a m) (w : World) : Calls Tryz.prog 99 #[.agg #[.int .i64 s, .int .i64 a, .int .i64 m]] w fun e w' => e = .returned (.bool false) ∧ Below w.heap.size w w' := by
  have H : Hid _ := h
  clear h
  by_cases h1 : 1 ≤ s
  · by_cases h2 : s ≤ 65535
    · by_cases h3 : 1 ≤ a
      · by_cases h4 : a ≤ 100
        · by_cases h5 : 0 ≤ m
          · by_cases h6 : m ≤ 200
            · exact absurd ⟨⟨h1, h2⟩, ⟨h3, h4⟩, ⟨h5, h6⟩⟩ H.out
            all_goals (go_enter Tryz.func99, Tryz.ntmps99; go_wp2; go_ret; exact ⟨rfl, (Below.refl _ _).alloc (Nat.le_refl _) _⟩)
          all_goals (go_enter Tryz.func99, Tryz.ntmps99; go_wp2; go_ret; exact ⟨rfl, (Below.refl _ _).alloc (Nat.le_refl _) _⟩)
        all_goals (go_enter Tryz.func99, Tryz.ntmps99; go_wp2; go_ret; exact ⟨rfl, (Below.refl _ _).alloc (Nat.le_refl _) _⟩)
      all_goals (go_enter Tryz.func99, Tryz.ntmps99; go_wp2; go_ret; exact ⟨rfl, (Below.refl _ _).alloc (Nat.le_refl _) _⟩)
    all_goals (go_enter Tryz.func99, Tryz.ntmps99; go_wp2; go_ret; exact ⟨rfl, (Below.refl _ _).alloc (Nat.le_refl _) _⟩)
  all_goals (go_enter Tryz.func99, Tryz.ntmps99; go_wp2; go_ret; exact ⟨rfl, (Below.refl _ _).alloc (Nat.le_refl _) _⟩)

structure ClOk (c : Cl) : Prop where
  st : c.st = 1 ∨ c.st = 2
  alg : 1 ≤ c.alg ∧ c.alg ≤ 3
  id : c.id ≤ 65535
  fix : c.fix.size = 4
  cfg : CfgOk c.seals c.ahead c.most
  res : c.res ≤ c.seals
  key : c.key.size = if c.st = 1 then 8 + 8 * c.alg else 0
def newErr (id : Int) (key fix : ByteArray) (s a m : Int) : Int → Prop := fun c =>
  (¬ (0 ≤ id ∧ id ≤ 65535 ∧ fix.size = 4 ∧ CfgOk s a m) ∧ c = 1) ∨ ((0 ≤ id ∧ id ≤ 65535 ∧ fix.size = 4 ∧ CfgOk s a m) ∧ ¬ KeyLen key.size ∧ c = 2)
set_option maxRecDepth 100000 in
set_option maxHeartbeats 4000000 in
theorem cnew_arg (id : Int) (key fix : ByteArray) (s a m : Int) (h : ¬ (0 ≤ id ∧ id ≤ 65535 ∧ fix.size = 4 ∧ CfgOk s a m)) (hf : fix.size ≤ maxLen) (w : World) :
    Calls Tryz.prog 57 #[.int .i64 id, .string key, .string fix, .agg #[.int .i64 s, .int .i64 a, .int .i64 m]] w fun e w' => e = .returned (.tuple #[.agg (clA zCl), .int .i64 1]) ∧ Below w.heap.size w w' := by
  have H : Hid _ := h
  have HF : Hid _ := hf
  clear h hf
  by_cases h1 : id < 0
  · go_enter Tryz.func57, Tryz.ntmps57
    go_wp2
    refine bodyPost_ret (res87 Tryz.results57 _ _ (w.heap.size + 1) (clA zCl) _ rfl rfl rfl (setRow_heap _ _ _ _ 100 _ (heap_of_new _ _ _ (by simp)))) rfl ⟨rfl, ?_⟩
    exact Below.setRow ((((Below.refl _ w).alloc (Nat.le_refl _) _).alloc (by simp) _)) (by omega) _
  · have e1 : ¬ (id < 0) := h1
    by_cases h2 : 65535 < id
    · go_enter Tryz.func57, Tryz.ntmps57
      go_wp2
      refine bodyPost_ret (res87 Tryz.results57 _ _ (w.heap.size + 1) (clA zCl) _ rfl rfl rfl (setRow_heap _ _ _ _ 100 _ (heap_of_new _ _ _ (by simp)))) rfl ⟨rfl, ?_⟩
      exact Below.setRow ((((Below.refl _ w).alloc (Nat.le_refl _) _).alloc (by simp) _)) (by omega) _
    · by_cases h3 : fix.size = 4
      · have hC : ¬ CfgOk s a m := fun h => H.out ⟨by omega, by omega, h3, h⟩
        have HC : Hid _ := hC
        have e3 : ((fix.size : Int) == 4) = true := by rw [beq_iff_eq]; omega
        clear hC
        go_enter Tryz.func57, Tryz.ntmps57
        go_wp2_with fail
        refine (cright_no s a m HC.out _).mono ?_
        rintro e w1 ⟨rfl, b1⟩
        have r1 : w1.heap[w.heap.size + 1]? = some (.cells zclA 100 (0, 0)) := by rw [b1.block _ (by simp)]; exact heap_of_new _ _ _ (by simp)
        have q1 : blk w1 (w.heap.size + 1) = some (.cells zclA 100 (0, 0)) := r1
        have B1 : Below w.heap.size w w1 := (((Below.refl _ w).alloc (Nat.le_refl _) _).alloc (by simp) _).trans (b1.mono (by simp; omega))
        go_wp2
        refine bodyPost_ret (res87 Tryz.results57 _ _ (w.heap.size + 1) (clA zCl) _ rfl rfl rfl (setRow_heap _ _ _ _ 100 _ r1)) rfl ⟨rfl, ?_⟩
        exact Below.setRow B1 (by omega) _
      · have e3 : ((fix.size : Int) == 4) = false := by rw [beq_eq_false_iff_ne]; omega
        go_enter Tryz.func57, Tryz.ntmps57
        go_wp2
        refine bodyPost_ret (res87 Tryz.results57 _ _ (w.heap.size + 1) (clA zCl) _ rfl rfl rfl (setRow_heap _ _ _ _ 100 _ (heap_of_new _ _ _ (by simp)))) rfl ⟨rfl, ?_⟩
        exact Below.setRow ((((Below.refl _ w).alloc (Nat.le_refl _) _).alloc (by simp) _)) (by omega) _
set_option maxRecDepth 100000 in
set_option maxHeartbeats 4000000 in
theorem cnew_ok (I : Nat) (key fix : ByteArray) (s a m : Nat) (hI : I ≤ 65535) (hf : fix.size = 4) (hc : CfgOk s a m) (hk : key.size ≤ maxLen) (w : World) :
    Calls Tryz.prog 57 #[.int .i64 I, .string key, .string fix, .agg #[.int .i64 s, .int .i64 a, .int .i64 m]] w fun e w' =>
      ((¬ KeyLen key.size ∧ e = .returned (.tuple #[.agg (clA zCl), .int .i64 2])) ∨ (∃ A : Nat, 1 ≤ A ∧ A ≤ 3 ∧ key.size = 8 + 8 * A ∧ e = .returned (.tuple #[.agg (clA ⟨1, A, I, fix, s, a, m, 0, key⟩), .int .i64 0]))) ∧ Below w.heap.size w w' := by
  have HC : Hid _ := hc
  have HK : Hid _ := hk
  have e1 : ¬ ((I : Int) < 0) := by omega
  have e3 : ((fix.size : Int) == 4) = true := by rw [beq_iff_eq]; omega
  clear hc hk
  go_enter Tryz.func57, Tryz.ntmps57
  go_wp2_with fail
  refine (cright_yes s a m HC.out _).mono ?_
  rintro e w1 ⟨rfl, b1⟩
  have r1 : w1.heap[w.heap.size + 1]? = some (.cells zclA 100 (0, 0)) := by rw [b1.block _ (by simp)]; exact heap_of_new _ _ _ (by simp)
  have r0 : w1.heap[w.heap.size]? = some (.cells #[.int .i64 s, .int .i64 a, .int .i64 m] 33 (0, 0)) := by rw [b1.block _ (by simp; omega)]; exact heap_of_old _ _ _ _ (by simp) (heap_of_new _ _ _ rfl)
  have q1 : blk w1 (w.heap.size + 1) = some (.cells zclA 100 (0, 0)) := r1
  have c0 : w1.cell? ⟨w.heap.size, 0, none⟩ = some (.int .i64 s) := by rw [cell_of_row _ _ 0 _ _ _ r0]; rfl
  have c1 : w1.cell? ⟨w.heap.size, 1, none⟩ = some (.int .i64 a) := by rw [cell_of_row _ _ 1 _ _ _ r0]; rfl
  have c2 : w1.cell? ⟨w.heap.size, 2, none⟩ = some (.int .i64 m) := by rw [cell_of_row _ _ 2 _ _ _ r0]; rfl
  have B1 : Below w.heap.size w w1 := (((Below.refl _ w).alloc (Nat.le_refl _) _).alloc (by simp) _).trans (b1.mono (by simp; omega))
  clear b1 r0
  go_wp2_with fail
  refine (alg_any key HK.out _).mono ?_
  rintro e w2 ⟨⟨A, h1, h2, hz, rfl⟩ | ⟨n1, n2, n3, rfl⟩, hw⟩
  · subst hw
    have eA : ((A : Int) == 0) = false := by rw [beq_eq_false_iff_ne]; omega
    have HZ : Hid _ := hz
    clear hz
    go_wp2
    refine bodyPost_ret (res87 Tryz.results57 _ _ (w.heap.size + 1) (clA ⟨1, A, I, fix, s, a, m, 0, key⟩) _ rfl rfl rfl (setRow_heap _ _ _ _ 100 _ r1)) rfl ⟨.inr ⟨A, h1, h2, HZ.out, rfl⟩, ?_⟩
    exact Below.setRow B1 (by omega) _
  · subst hw
    have HN : Hid (¬ KeyLen key.size) := by rintro (h | h | h) <;> contradiction
    clear n1 n2 n3
    go_wp2
    refine bodyPost_ret (res87 Tryz.results57 _ _ (w.heap.size + 1) (clA zCl) _ rfl rfl rfl (setRow_heap _ _ _ _ 100 _ r1)) rfl ⟨.inl ⟨HN.out, rfl⟩, ?_⟩
    exact Below.setRow B1 (by omega) _
theorem res87' {fn : Func} {p : Tmp} (h : fn.results = #[.cell p 100]) (tmps : Array Value) (w : World) (g : Nat) (cs : Array Value) (hcs : cs.size = 9)
    (hp : tmps.getD p undef = .pointer (some ⟨g, 0, none⟩)) (hg : w.heap[g]? = some (.cells cs 100 (0, 0))) : (results fn tmps).run Tryz.prog w = .ok (.agg cs) w :=
  results_cell_row h tmps w g 100 _ (0, 0) _ hp hg Tryz.underlying100 rfl (by rw [hcs]; kernel_rfl)
def Cl.reserving (c : Cl) : Cl := { c with res := min (c.res + c.ahead) c.seals }
def Cl.retiring (c : Cl) : Cl := { c with st := 2, key := ⟨#[]⟩ }
set_option maxRecDepth 100000 in
set_option maxHeartbeats 4000000 in
theorem reserving_any (c : Cl) (h1 : c.res ≤ 100000) (h2 : c.ahead ≤ 100000) (w : World) :
    Calls Tryz.prog 69 #[.agg (clA c)] w fun e w' => e = .returned (.agg (clA c.reserving)) ∧ Below w.heap.size w w' := by
  unfold clA clC
  have hmin : min ((c.res : Int) + (c.ahead : Int)) (c.seals : Int) = ((min (c.res + c.ahead) c.seals : Nat) : Int) := by omega
  go_enter Tryz.func69, Tryz.ntmps69
  go_wp2
  refine bodyPost_ret (res87' Tryz.results69 _ _ (w.heap.size + 1) (clA c.reserving) rfl rfl (setRow_heap _ _ _ _ 100 _ (heap_of_new _ _ _ (by simp)))) rfl ⟨rfl, ?_⟩
  exact Below.setRow ((((Below.refl _ w).alloc (Nat.le_refl _) _).alloc (by simp) _)) (by omega) _
set_option maxRecDepth 100000 in
set_option maxHeartbeats 4000000 in
theorem retiring_any (c : Cl) (w : World) :
    Calls Tryz.prog 75 #[.agg (clA c)] w fun e w' => e = .returned (.agg (clA c.retiring)) ∧ Below w.heap.size w w' := by
  unfold clA clC
  go_enter Tryz.func75, Tryz.ntmps75
  go_wp2
  refine bodyPost_ret (res87' Tryz.results75 _ _ (w.heap.size + 1) (clA c.retiring) rfl rfl (setRow_heap _ _ _ _ 100 _ (heap_of_new _ _ _ (by simp)))) rfl ⟨rfl, ?_⟩
  exact Below.setRow ((((Below.refl _ w).alloc (Nat.le_refl _) _).alloc (by simp) _)) (by omega) _

theorem cells9 {w : World} {g : Nat} {t : TypeId} {v0 v1 v2 v3 v4 v5 v6 v7 v8 : Value} (h : w.heap[g]? = some (.cells #[v0, v1, v2, v3, v4, v5, v6, v7, v8] t (0, 0))) :
    w.cell? ⟨g, 0, none⟩ = some v0 ∧ w.cell? ⟨g, 1, none⟩ = some v1 ∧ w.cell? ⟨g, 2, none⟩ = some v2 ∧ w.cell? ⟨g, 3, none⟩ = some v3 ∧ w.cell? ⟨g, 4, none⟩ = some v4 ∧ w.cell? ⟨g, 5, none⟩ = some v5 ∧ w.cell? ⟨g, 6, none⟩ = some v6 ∧ w.cell? ⟨g, 7, none⟩ = some v7 ∧ w.cell? ⟨g, 8, none⟩ = some v8 := by
  refine ⟨?_, ?_, ?_, ?_, ?_, ?_, ?_, ?_, ?_⟩
  · rw [cell_of_row _ _ 0 _ _ _ h]; rfl
  · rw [cell_of_row _ _ 1 _ _ _ h]; rfl
  · rw [cell_of_row _ _ 2 _ _ _ h]; rfl
  · rw [cell_of_row _ _ 3 _ _ _ h]; rfl
  · rw [cell_of_row _ _ 4 _ _ _ h]; rfl
  · rw [cell_of_row _ _ 5 _ _ _ h]; rfl
  · rw [cell_of_row _ _ 6 _ _ _ h]; rfl
  · rw [cell_of_row _ _ 7 _ _ _ h]; rfl
  · rw [cell_of_row _ _ 8 _ _ _ h]; rfl
def HoldsC (c : Cl) : Prop := (1 ≤ c.alg ∧ c.alg ≤ 3) ∧ CfgOk c.seals c.ahead c.most ∧ c.res ≤ c.seals ∧ ((c.st = 1 ∧ c.key.size = 8 + 8 * c.alg) ∨ (c.st = 2 ∧ c.key.size = 0))
theorem empty_iff (s : ByteArray) : s.size = 0 ↔ s = ⟨#[]⟩ := by
  constructor
  · intro h
    apply bytes_ext h
    intro j hj; omega
  · rintro rfl; rfl
theorem alg_no (c : Cl) (h : ¬ (1 ≤ c.alg ∧ c.alg ≤ 3)) (w : World) : Calls Tryz.prog 97 #[.agg (clA c)] w fun e w' => e = .returned (.bool false) ∧ Below w.heap.size w w' := by
  have H : Hid _ := h
  clear h
  unfold clA clC
  go_enter Tryz.func97, Tryz.ntmps97
  go_wp2_with fail
  refine (sizes_no c.alg (fun h => H.out ⟨by omega, by omega⟩) _).mono ?_
  rintro e w1 ⟨rfl, hw⟩
  rw [hw]
  go_wp2
  go_ret
  exact ⟨rfl, (Below.refl _ _).alloc (Nat.le_refl _) _⟩
theorem beq_ne {a b : ByteArray} (h : a ≠ b) : (a.toList == b.toList) = false := by
  rw [beq_eq_false_iff_ne]
  intro e
  rw [ByteArray.toList_eq, ByteArray.toList_eq] at e
  exact h (WideShapes.bytes_inj e)
theorem isEmpty_no {a : ByteArray} (h : a.size ≠ 0) : a.toList.isEmpty = false := by
  rw [ByteArray.toList_eq, List.isEmpty_eq_false_iff]
  intro e
  exact h (by have := congrArg List.length e; simpa using this)
set_option maxRecDepth 100000 in
set_option maxHeartbeats 4000000 in
theorem holds_at (c : Cl) (b : Bool) (h2 : 1 ≤ c.alg ∧ c.alg ≤ 3) (hb : b = true ↔ HoldsC c) (hz : c.key.size ≤ maxLen) (w : World) : Calls Tryz.prog 97 #[.agg (clA c)] w fun e w' => e = .returned (.bool b) ∧ Below w.heap.size w w' := by
  have HB : Hid _ := hb
  have H2 : Hid _ := h2
  have HZ : Hid _ := hz
  have e1 : ((8 + 8 * (c.alg : Int)) == 0) = false := by rw [beq_eq_false_iff_ne]; omega
  clear hb h2 hz
  unfold clA clC
  by_cases hC : CfgOk c.seals c.ahead c.most
  · have HC : Hid _ := hC
    clear hC
    go_enter Tryz.func97, Tryz.ntmps97
    go_wp2_with fail
    refine (sizes_any c.alg H2.out.1 H2.out.2 _).mono ?_
    rintro e w1 ⟨rfl, hw⟩
    rw [hw]
    go_wp2_with fail
    refine (cright_yes _ _ _ HC.out _).mono ?_
    rintro e w2 ⟨rfl, b2⟩
    have r2 : w2.heap[w.heap.size]? = some (.cells #[.int .i64 c.st, .int .i64 c.alg, .int .i64 c.id, .string c.fix, .int .i64 c.seals, .int .i64 c.ahead, .int .i64 c.most, .int .i64 c.res, .string c.key] 100 (0, 0)) := by rw [b2.block _ (by simp)]; exact heap_of_new _ _ _ rfl
    obtain ⟨c0, c1, c2, c3, c4, c5, c6, c7, c8⟩ := cells9 r2
    have B2 : Below w.heap.size w w2 := ((Below.refl _ w).alloc (Nat.le_refl _) _).trans (b2.mono (by simp))
    clear b2 r2
    by_cases hr : c.res ≤ c.seals
    · have er : ¬ ((c.seals : Int) < (c.res : Int)) := by omega
      by_cases h1 : c.st = 1
      · have k1 : ((c.st : Int) == 1) = true := by rw [beq_iff_eq]; omega
        by_cases hk : c.key.size = 8 + 8 * c.alg
        · have k2 : ((c.key.size : Int) == 8 + 8 * (c.alg : Int)) = true := by rw [beq_iff_eq]; omega
          have : b = true := HB.out.2 ⟨H2.out, HC.out, hr, .inl ⟨h1, hk⟩⟩
          subst this
          clear hk h1
          go_wp2
          go_ret
          exact ⟨rfl, B2⟩
        · have k2 : ((c.key.size : Int) == 8 + 8 * (c.alg : Int)) = false := by rw [beq_eq_false_iff_ne]; omega
          have : b = false := by
            rw [Bool.eq_false_iff]
            intro e
            obtain ⟨_, _, _, ⟨_, h⟩ | ⟨h, _⟩⟩ := HB.out.1 e
            · exact hk h
            · omega
          subst this
          clear hk h1
          go_wp2
          go_ret
          exact ⟨rfl, B2⟩
      · have k1 : ((c.st : Int) == 1) = false := by rw [beq_eq_false_iff_ne]; omega
        by_cases h22 : c.st = 2
        · have k2 : ((c.st : Int) == 2) = true := by rw [beq_iff_eq]; omega
          by_cases hk0 : c.key.size = 0
          · have : b = true := HB.out.2 ⟨H2.out, HC.out, hr, .inr ⟨h22, hk0⟩⟩
            subst this
            rw [(empty_iff _).1 hk0] at c8
            clear h22 h1 hk0
            go_wp2
            go_ret
            exact ⟨rfl, B2⟩
          · have : b = false := by
              rw [Bool.eq_false_iff]
              intro e
              obtain ⟨_, _, _, ⟨h, _⟩ | ⟨_, h⟩⟩ := HB.out.1 e
              · omega
              · exact hk0 h
            subst this
            have k3 := isEmpty_no hk0
            clear h22 h1
            go_wp2
            go_ret
            exact ⟨rfl, B2⟩
        · have k2 : ((c.st : Int) == 2) = false := by rw [beq_eq_false_iff_ne]; omega
          have : b = false := by
            rw [Bool.eq_false_iff]
            intro e
            obtain ⟨_, _, _, ⟨h, _⟩ | ⟨h, _⟩⟩ := HB.out.1 e
            · exact h1 h
            · exact h22 h
          subst this
          clear h1 h22
          go_wp2
          go_ret
          exact ⟨rfl, B2⟩
    · have er : (c.seals : Int) < (c.res : Int) := by omega
      have : b = false := by
        rw [Bool.eq_false_iff]
        intro e
        exact hr (HB.out.1 e).2.2.1
      subst this
      clear hr
      go_wp2
      go_ret
      exact ⟨rfl, B2⟩
  · have HC : Hid _ := hC
    have : b = false := by
      rw [Bool.eq_false_iff]
      intro e
      exact hC (HB.out.1 e).2.1
    subst this
    clear hC
    go_enter Tryz.func97, Tryz.ntmps97
    go_wp2_with fail
    refine (sizes_any c.alg H2.out.1 H2.out.2 _).mono ?_
    rintro e w1 ⟨rfl, hw⟩
    rw [hw]
    go_wp2_with fail
    refine (cright_no _ _ _ HC.out _).mono ?_
    rintro e w2 ⟨rfl, b2⟩
    have B2 : Below w.heap.size w w2 := ((Below.refl _ w).alloc (Nat.le_refl _) _).trans (b2.mono (by simp))
    go_wp2
    go_ret
    exact ⟨rfl, B2⟩
theorem holds_any (c : Cl) (b : Bool) (hb : b = true ↔ HoldsC c) (hz : c.key.size ≤ maxLen) (w : World) : Calls Tryz.prog 97 #[.agg (clA c)] w fun e w' => e = .returned (.bool b) ∧ Below w.heap.size w w' := by
  by_cases h : 1 ≤ c.alg ∧ c.alg ≤ 3
  · exact holds_at c b h hb hz w
  · have : b = false := by
      rw [Bool.eq_false_iff]
      intro e
      exact h (hb.1 e).1
    subst this
    exact alg_no c h w
end Go.Proofs.YtgalgjmhdbncbabGreat
namespace Go.Proofs.YtgalgjmhdbncbabGreat
open Go.RowKit
attribute [local go_sem ↓] Go.wp_at_zero Go.wp_at_succ

def bo (n : Nat) : Nat := if n = 0 then 0 else 20
def partsV (g n : Nat) : Array Value := #[.slice (some ⟨g, 0, none⟩) 3 3, .slice (some ⟨g, 3, none⟩) 1 1, .slice (some ⟨g, 4, none⟩) 2 2, .slice (some ⟨g, 6, none⟩) 12 12, .slice (some ⟨g, 18, none⟩) 2 2,
  .slice (some ⟨g, bo n, none⟩) n n, .slice (some ⟨g, 20 + n, none⟩) 16 16, .slice (some ⟨g, 0, none⟩) 20 20]
set_option maxRecDepth 100000 in
set_option maxHeartbeats 2000000 in
theorem cut_any (g n cap : Nat) (hn : n ≤ 100000) (hc : 36 + n ≤ cap) (w : World) : Calls Tryz.prog 125 #[.slice (some ⟨g, 0, none⟩) (36 + n) cap] w fun e w' => e = .returned (.agg (partsV g n)) ∧ Below w.heap.size w w' := by
  have hi : ((36 + n : Nat) : Int) - 16 = ((20 + n : Nat) : Int) := by omega
  have k1 : ((20 + n : Nat) : Int) ≤ ((36 + n : Nat) : Int) := by omega
  have k2 : ((36 + n : Nat) : Int) ≤ (cap : Int) := by omega
  have k3 : ((20 + n : Nat) : Int) ≤ (cap : Int) := by omega
  have k4 : (20 : Int) ≤ ((20 + n : Nat) : Int) := by omega
  go_enter Tryz.func125, Tryz.ntmps125
  go_wp2_with fail
  go_region
  have HE : Hid (#[Value.slice (some ⟨g, 0, none⟩) 3 3, Value.slice (some ⟨g, 3, none⟩) 1 1, Value.slice (some ⟨g, 4, none⟩) 2 2, Value.slice (some ⟨g, 6, none⟩) 12 12, Value.slice (some ⟨g, 18, none⟩) 2 2,
      Value.slice (if 36 + n - 16 = 20 then some ⟨g, 0, none⟩ else some ⟨g, 20, none⟩) (36 + n - 16 - 20) (36 + n - 16 - 20), Value.slice (some ⟨g, 36 + n - 16, none⟩) (36 + n - (36 + n - 16)) (36 + n - (36 + n - 16)), Value.slice (some ⟨g, 0, none⟩) 20 20] = partsV g n) := by
    show _ = _
    unfold partsV bo
    rw [show 36 + n - 16 = 20 + n by omega, show 36 + n - (20 + n) = 16 by omega, show 20 + n - 20 = n by omega]
    by_cases h0 : n = 0
    · subst h0
      rfl
    · rw [if_neg (by omega), if_neg h0]
  rw [HE.out]
  have hh : (w.alloc (.cells (partsV g n) 189)).drew.heap[w.heap.size]? = some (.cells (partsV g n) 189 (0, 0)) := heap_of_new w _ _ rfl
  go_wp2
  all_goals
    refine bodyPost_ret (v := .agg (partsV g n)) (results_cell_row Tryz.results125 _ _ w.heap.size 189 _ (0, 0) _ rfl hh Tryz.underlying189 rfl (by kernel_rfl)) rfl ⟨rfl, ?_⟩
    exact ((Below.refl _ w).alloc (Nat.le_refl _) _).drew

def cpF (f : Nat → UInt8) (off : Nat) (S : ByteArray) (j : Nat) : UInt8 := if off ≤ j ∧ j < off + S.size then sf S (j - off) else f j
theorem cpAt {ops : Array Oper} {rest : List Oper} {o : Oper} {a : Act} {w : World} {Q : Exit → Act → World → Prop} (hgd : o.guard = none) (d s : Operand)
    (ho : o.op = .call { callee := .builtin .copy, args := #[d, s], argTypes := #[134, 9] }) (g off n dLen dCap : Nat) (t : TypeId) (f : Nat → UInt8) (S : ByteArray)
    (hd : a.eval d = .slice (some ⟨g, off, none⟩) dLen dCap) (hs : a.eval s = .string S) (hg : Row w g n t (by8 f)) (hle : S.size ≤ dLen) (hn : off + S.size ≤ n)
    (h : ∀ w', Chg g w w' → Row w' g n t (by8 (cpF f off S)) → wpList Tryz.prog ops Q rest (a.put o.dst (goInt S.size)) w') : wpList Tryz.prog ops Q (o :: rest) a w := by
  refine wpList_plain hgd fun K hK => ?_
  have hrun := Lib.run_copy_row_string (P := Tryz.prog) w 134 9 o.type 5 g off dLen dCap S (arr n (by8 f)) t Tryz.underlying134 (by kernel_rfl) hg hle (by simpa [arr_size] using hn)
  have he : ((arr n (by8 f)).toList.take off ++ Lib.byteCells S.data.toList ++ (arr n (by8 f)).toList.drop (off + S.size)).toArray = arr n (by8 (cpF f off S)) := by
    have hl : (Lib.byteCells S.data.toList).length = S.size := by simp [Lib.byteCells]
    have hlen : ((arr n (by8 f)).toList.take off).length = off := by
      have : (arr n (by8 f)).toList.length = n := by simp [arr]
      rw [List.length_take]; omega
    apply Array.ext_getElem?
    intro i
    simp only [List.getElem?_toArray]
    rw [List.append_assoc, List.getElem?_append, hlen]
    by_cases h1 : i < off
    · rw [if_pos h1, List.getElem?_take, if_pos h1, arr_get _ _ _ (by omega)]
      have : (arr n (by8 f)).toList[i]? = some (by8 f i) := by simpa using arr_get n (by8 f) i (by omega)
      have e : cpF f off S i = f i := if_neg (by omega)
      rw [this]
      show some (Value.int .u8 ((f i).toNat : Int)) = some (Value.int .u8 ((cpF f off S i).toNat : Int))
      rw [e]
    · rw [if_neg h1, List.getElem?_append, hl]
      by_cases h2 : i - off < S.size
      · have e : cpF f off S i = sf S (i - off) := if_pos (by omega)
        rw [if_pos h2, byteCells_get S _ h2, arr_get _ _ _ (by omega)]
        show some (Value.int .u8 ((sf S (i - off)).toNat : Int)) = some (Value.int .u8 ((cpF f off S i).toNat : Int))
        rw [e]
      · rw [if_neg h2, List.getElem?_drop, show off + S.size + (i - off - S.size) = i by omega]
        by_cases h3 : i < n
        · rw [arr_get _ _ _ h3]
          have : (arr n (by8 f)).toList[i]? = some (by8 f i) := by simpa using arr_get n (by8 f) i h3
          have e : cpF f off S i = f i := if_neg (by omega)
          rw [this]
          show some (Value.int .u8 ((f i).toNat : Int)) = some (Value.int .u8 ((cpF f off S i).toNat : Int))
          rw [e]
        · simp [arr, h3]
  rw [he] at hrun
  unfold Oper.wp
  simp [execOp, ho, resolve, invoke, builtin, hd, hs, hrun, Result.andThen]
  exact hK _ _ (h _ (Chg.setRow _ _ _) hg.setRow)
end Go.Proofs.YtgalgjmhdbncbabGreat
