import Derived.Test.YtgalgjmhdbncbaaGreatZt03
import Derived.Deep.DeepCutAuto
import Derived.Deep.CutBlock
import Derived.Deep.RegionLaw
namespace Go.Proofs.YtgalgjmhdbncbaaGreat
open Go.RowKit
attribute [local go_sem ↓] Go.wp_at_zero Go.wp_at_succ
attribute [local go_sem ↓] ldw40 ldw50 ldw60 ldw63 ldw52 stw40 stw50 stw63 stw52 al40 al50 al60 al62 al63 al52 bd50 bd55
attribute [local go_sem] run_ldT40 run_ldT50 run_ldT60 run_ldT63 run_ldT52 ldN_row run_stT40 run_stT50 run_stT63 run_stT52 stN_row stN_z run_al40 run_al50 run_al60 run_al62 run_al63 run_al52 run_bd50 run_bd55
attribute [local go_sem] blk_new blk_at blk_old blk_drew blk_setCell blk_setRow alloc_setRow

set_option maxHeartbeats 400000 in
theorem sizes_any (k : Nat) (h1 : 1 ≤ k) (h2 : k ≤ 3) (w : World) :
    Calls Tryz.prog 110 #[.int .i64 k] w fun e w' => e = .returned (.tuple #[.int .i64 (8 + 2 * (k : Int)), .int .i64 (8 + 8 * (k : Int))]) ∧ w' = w := by
  match k, h1, h2 with
  | 1, _, _ =>
    go_enter Tryz.func110, Tryz.ntmps110
    go_wp2
    go_ret2
    exact ⟨rfl, rfl⟩
  | 2, _, _ =>
    go_enter Tryz.func110, Tryz.ntmps110
    go_wp2
    go_ret2
    exact ⟨rfl, rfl⟩
  | 3, _, _ =>
    go_enter Tryz.func110, Tryz.ntmps110
    go_wp2
    go_ret2
    exact ⟨rfl, rfl⟩

set_option maxHeartbeats 400000 in
theorem alg_any (s : ByteArray) (_hs : s.size ≤ maxLen) (w : World) :
    Calls Tryz.prog 120 #[.string s] w fun e w' => ((∃ k : Nat, 1 ≤ k ∧ k ≤ 3 ∧ s.size = 8 + 8 * k ∧ e = .returned (.int .i64 k)) ∨ (s.size ≠ 16 ∧ s.size ≠ 24 ∧ s.size ≠ 32 ∧ e = .returned (.int .i64 0))) ∧ w' = w := by
  unfold maxLen at _hs
  go_enter Tryz.func120, Tryz.ntmps120
  go_wp2
  go_loop [3] (fun i => ∃ k : Nat, 1 ≤ k ∧ k ≤ 4 ∧ i = .int .i64 k ∧ ∀ j, 1 ≤ j → j < k → s.size ≠ 8 + 8 * j) (fun i => 4 - (intOf i).toNat)
  case atStart => exact ⟨1, by omega, by omega, rfl, fun j h1 h2 => by omega⟩
  case round =>
    obtain ⟨k, hk1, hk2, rfl, hno⟩ := hrel
    have HN : Hid _ := hno
    clear hno
    by_cases hlt : k ≤ 3
    · by_cases he : s.size = 8 + 8 * k
      · have hb : ((8 + 8 * (k : Int)) == (s.size : Int)) = true := beq_iff_eq.2 (by omega)
        have HE : Hid _ := he
        clear he
        go_wp2_with (go_at_call 110; refine (sizes_any k hk1 hlt _).mono ?_; rintro e w1 ⟨rfl, rfl⟩)
        go_ret
        exact ⟨Or.inl ⟨k, hk1, hlt, HE, rfl⟩, rfl⟩
      · have hb : ((8 + 8 * (k : Int)) == (s.size : Int)) = false := beq_eq_false_iff_ne.2 (by omega)
        go_wp2_with (go_at_call 110; refine (sizes_any k hk1 hlt _).mono ?_; rintro e w1 ⟨rfl, rfl⟩)
        go_round
        case rel =>
          refine ⟨k + 1, by omega, by omega, by go_num, ?_⟩
          intro j h1 h2
          by_cases hjk : j = k
          · subst hjk; exact he
          · exact HN.out j h1 (by omega)
        case measure => simp [intOf]; omega
    · have h4 : k = 4 := by omega
      subst h4
      have n1 := HN.out 1 (by omega) (by omega)
      have n2 := HN.out 2 (by omega) (by omega)
      have n3 := HN.out 3 (by omega) (by omega)
      have M1 : Hid _ := n1
      have M2 : Hid _ := n2
      have M3 : Hid _ := n3
      clear n1 n2 n3
      go_wp2
      go_ret
      exact ⟨Or.inr ⟨M1.out, M2.out, M3.out, rfl⟩, rfl⟩

def sw (bx : Nat → UInt8) (n at' : Nat) (c : UInt8) (R : Nat → UInt8) (i : Nat) : UInt8 :=
  if at' % n = 0 then bx (R (at' - 4 + (i + 1) % 4)).toNat ^^^ (if i = 0 then c else 0)
  else if n = 32 ∧ at' % n = 16 then bx (R (at' - 4 + i)).toNat
  else R (at' - 4 + i)
def kxR (bx f : Nat → UInt8) (n : Nat) : Nat → (Nat → UInt8) × UInt8
  | 0 => (fun j => if j < n then f j else 0, 1)
  | t + 1 => (fun j => if n + 4 * t ≤ j ∧ j < n + 4 * t + 4 then (kxR bx f n t).1 (j - n) ^^^ sw bx n (n + 4 * t) (kxR bx f n t).2 (kxR bx f n t).1 (j - (n + 4 * t)) else (kxR bx f n t).1 j,
      if (n + 4 * t) % n = 0 then dbl (kxR bx f n t).2 else (kxR bx f n t).2)

structure S30 (w0 w : World) (N : Nat) (bx R : Nat → UInt8) : Prop where
  r0 : Row w N 256 206 (by8 bx)
  r1 : Row w (N + 1) 240 208 z8
  r2 : Row w (N + 1 + 1) 240 219 (by8 R)
  b : Below N w0 w

theorem sl62 (g A : Nat) (h1 : 4 ≤ A) (h2 : A ≤ 240) (w : World) : (Instr.sliceAt 219 (.pointer (some ⟨g, 0, none⟩)) (some (.int .i64 ((A : Int) - 4))) (some (.int .i64 (A : Int))) none).run Tryz.prog w = .ok (.slice (some ⟨g, A - 4, none⟩) 4 (244 - A)) w := by
  have hs : (sizeOf 5).run Tryz.prog w = .ok 1 w := by kernel_rfl
  have h := run_sliceAt_array_lh (P := Tryz.prog) w 219 ⟨g, 0, none⟩ (by kernel_rfl) .i64 .i64 ((A : Int) - 4) (A : Int) (by omega) (by omega) (by rw [show Tryz.prog.arrayLen 219 = 240 from by kernel_rfl]; omega)
  rw [show Tryz.prog.arrayLen 219 = 240 from by kernel_rfl, show Tryz.prog.elem 219 = 5 from by kernel_rfl, hs] at h
  rw [h]
  simp only [Result.andThen_ok, slicedAt]
  rw [if_neg (by omega), show ((A : Int) - 4).toNat = A - 4 by omega, Int.toNat_natCast, show A - (A - 4) = 4 by omega, show 240 - (A - 4) = 244 - A by omega]
  have : (⟨g, 0, none⟩ : Addr).add ((A - 4) * 1) = ⟨g, A - 4, none⟩ := by unfold Addr.add; split <;> simp_all
  rw [this]
theorem arr63 (a : Addr) (c : Nat) (w : World) : (Instr.arrayAt 220 (.slice (some a) 4 c)).run Tryz.prog w = .ok (.pointer (some a)) w := by kernel_rfl
theorem ld_word (R : Nat → UInt8) (o : Nat) (h : o + 4 ≤ 240) (w : World) (r : Result Value) : ldN (some (.cells (arr 240 (by8 R)) 219 (0, 0))) o 4 w r = .ok (.agg (arr 4 (by8 fun j => R (o + j)))) w := ldN_mid 240 (by8 R) 219 o 4 w r h
def q4 (a b c d : UInt8) (j : Nat) : UInt8 := if j = 0 then a else if j = 1 then b else if j = 2 then c else d
theorem quad (a b c d : UInt8) : (#[.int .u8 a.toNat, .int .u8 b.toNat, .int .u8 c.toNat, .int .u8 d.toNat] : Array Value) = arr 4 (by8 (q4 a b c d)) := rfl
theorem st63' {ops : Array Oper} {rest : List Oper} {o : Oper} {a : Act} {w : World} {Q : Exit → Act → World → Prop} (hgd : o.guard = none) (x y : Operand) (ho : o.op = .store 220 x y)
    (g : Nat) (f : Nat → UInt8) (hx : a.eval x = .pointer (some ⟨g, 0, none⟩)) (hy : a.eval y = .agg (arr 4 (by8 f))) (V : Nat → Value) (hg : Row w g 4 220 V)
    (h : ∀ w', Chg g w w' → Row w' g 4 220 (by8 f) → wpList Tryz.prog ops Q rest (a.put o.dst undef) w') : wpList Tryz.prog ops Q (o :: rest) a w :=
  wpList_store_row hgd 220 x y ho g _ hx hy 220 _ hg (by rw [arr_size]; kernel_rfl) (by simp [arr_size]) (one8 4 f) (h _ (Chg.setRow _ _ _) hg.setRow)
theorem S30.chg {w0 w w1 : World} {N m : Nat} {bx R : Nat → UInt8} (h : S30 w0 w N bx R) (hc : Chg m w w1) (hm : N + 1 + 1 < m) : S30 w0 w1 N bx R :=
  ⟨h.r0.chg hc (by omega), h.r1.chg hc (by omega), h.r2.chg hc (by omega), Below.chg h.b hc (by omega)⟩
theorem sw_zero (bx : Nat → UInt8) (n A : Nat) (c : UInt8) (R : Nat → UInt8) (j : Nat) (hj : j < 4) (h : A % n = 0) :
    (if j = 0 then Value.int .u8 ((bx (R (A - 4 + 1)).toNat ^^^ c).toNat : Int) else by8 (fun j => bx (q4 (R (A - 4 + 1)) (R (A - 4 + 2)) (R (A - 4 + 3)) (R (A - 4)) j).toNat) j) = by8 (sw bx n A c R) j := by
  unfold sw by8
  simp only [if_pos h]
  match j, hj with
  | 0, _ => rfl
  | 1, _ => simp [q4]
  | 2, _ => simp [q4]
  | 3, _ => simp [q4]
theorem S30.setOther {w0 w : World} {N m o : Nat} {v : Value} {bx R : Nat → UInt8} (h : S30 w0 w N bx R) (hm : N + 1 + 1 < m) : S30 w0 (w.setCell ⟨m, o, none⟩ v) N bx R :=
  ⟨h.r0.other (by omega), h.r1.other (by omega), h.r2.other (by omega), h.b.setCell (by simp; omega) _⟩
theorem sl62l (g i : Nat) (h : i < 15) (w : World) : (Instr.sliceAt 219 (.pointer (some ⟨g, 0, none⟩)) (some (.int .i64 ((i : Int) * 16))) none none).run Tryz.prog w = .ok (.slice (some ⟨g, i * 16, none⟩) (240 - i * 16) (240 - i * 16)) w := by
  have hs : (sizeOf 5).run Tryz.prog w = .ok 1 w := by kernel_rfl
  have h := run_sliceAt_array_l (P := Tryz.prog) w 219 ⟨g, 0, none⟩ (by kernel_rfl) .i64 ((i : Int) * 16) (by omega) (by rw [show Tryz.prog.arrayLen 219 = 240 from by kernel_rfl]; omega)
  rw [show Tryz.prog.arrayLen 219 = 240 from by kernel_rfl, show Tryz.prog.elem 219 = 5 from by kernel_rfl, hs] at h
  rw [h]
  simp only [Result.andThen_ok, slicedAt]
  rw [if_neg (by omega), show ((i : Int) * 16).toNat = i * 16 by omega]
  have : (⟨g, 0, none⟩ : Addr).add (i * 16 * 1) = ⟨g, i * 16, none⟩ := by unfold Addr.add; split <;> simp_all
  rw [this]
theorem step_cpK {ops : Array Oper} {o : Oper} {a : Act} {w : World} {K : Act → World → Prop} {Q : Exit → Act → World → Prop} {E : Prop} (hgd : o.guard = none) (d s : Operand)
    (ho : o.op = .call { callee := .builtin .copy, args := #[d, s], argTypes := #[105, 105] }) (g g' i : Nat) (hi : i < 15) (hd : a.eval d = .slice (some ⟨g, i * 16, none⟩) 16 16)
    (hs : a.eval s = .slice (some ⟨g', i * 16, none⟩) (240 - i * 16) (240 - i * 16)) (V : Nat → Value) (R : Nat → UInt8) (hg : Row w g 240 208 V) (hg' : Row w g' 240 219 (by8 R))
    (hK : ∀ w', Chg g w w' → Row w' g 240 208 (fun j => if i * 16 ≤ j ∧ j < i * 16 + 16 then by8 R j else V j) → K (a.put o.dst (goInt 16)) w') :
    if Region.wanted o (yielded ops a.tmps) = true then Oper.wp Tryz.prog o a w K Q else E := by
  have hw : Region.wanted o (yielded ops a.tmps) = true := by simp [Region.wanted, hgd]
  rw [if_pos hw]
  have hl : (cl 16 fun j => by8 R (i * 16 + j)).length = 16 := cl_length _ _
  have hrun := run_copy_row (P := Tryz.prog) w 105 105 o.type 5 g (i * 16) 16 16 ⟨g', i * 16, none⟩ (240 - i * 16) (240 - i * 16) (arr 240 V) 208 (cl 16 fun j => by8 R (i * 16 + j)) Tryz.underlying105 (by kernel_rfl) hg
    (by rw [hl]; show 16 = min (240 - i * 16) 16; omega)
    (fun j v hv => by
      have hj : j < 16 := by
        have := (List.getElem?_eq_some_iff.1 hv).1
        rwa [hl] at this
      have hadd : (⟨g', i * 16, none⟩ : Addr).add j = ⟨g', i * 16 + j, none⟩ := by unfold Addr.add; split <;> simp_all
      have e : (cl 16 fun j => by8 R (i * 16 + j))[j]? = some (by8 R (i * 16 + j)) := by simp [cl, hj]
      rw [e] at hv
      rw [hadd, hg'.cell _ (by omega)]; exact hv)
    (by rw [hl, arr_size]; omega) (cl_one 16 fun j => R (i * 16 + j))
  have he : ((arr 240 V).toList.take (i * 16) ++ (cl 16 fun j => by8 R (i * 16 + j)) ++ (arr 240 V).toList.drop (i * 16 + (cl 16 fun j => by8 R (i * 16 + j)).length)).toArray = arr 240 (fun j => if i * 16 ≤ j ∧ j < i * 16 + 16 then by8 R j else V j) := by
    rw [hl]
    apply Array.ext_getElem?
    intro x
    rw [List.getElem?_toArray, List.append_assoc, List.getElem?_append]
    have h1 : (List.take (i * 16) (arr 240 V).toList).length = i * 16 := by simp [arr_size]; omega
    rw [h1]
    by_cases hx : x < i * 16
    · rw [if_pos hx, List.getElem?_take_of_lt hx, Array.getElem?_toList, arr_get _ _ _ (by omega), arr_get _ _ _ (by omega), if_neg (by omega)]
    · rw [if_neg hx, List.getElem?_append, hl]
      by_cases hx2 : x - i * 16 < 16
      · rw [if_pos hx2, arr_get _ _ _ (by omega), if_pos (by omega)]
        have e : (cl 16 fun j => by8 R (i * 16 + j))[x - i * 16]? = some (by8 R (i * 16 + (x - i * 16))) := by simp [cl, hx2]
        rw [e, show i * 16 + (x - i * 16) = x by omega]
      · rw [if_neg hx2, List.getElem?_drop, Array.getElem?_toList, show i * 16 + 16 + (x - i * 16 - 16) = x by omega]
        by_cases hx3 : x < 240
        · rw [arr_get _ _ _ hx3, arr_get _ _ _ hx3, if_neg (by omega)]
        · simp [arr, hx3]
  rw [he, hl] at hrun
  unfold Oper.wp
  simp [execOp, ho, resolve, invoke, builtin, hd, hs, hrun, Result.andThen]
  exact hK _ (Chg.setRow _ _ _) hg.setRow
structure S32 (w0 w : World) (N m : Nat) (R V : Nat → UInt8) : Prop where
  r1 : Row w (N + 1) 240 208 z8
  r2 : Row w (N + 1 + 1) 240 219 (by8 R)
  r3 : Row w m 240 208 (by8 V)
  b : Below N w0 w
structure S31 (w0 w : World) (N m : Nat) (bx R L : Nat → UInt8) : Prop where
  s : S30 w0 w N bx R
  r : Row w m 4 220 (by8 L)
theorem S30.keep {w0 w w1 : World} {N : Nat} {bx R : Nat → UInt8} (h : S30 w0 w N bx R) (hb : Below w.heap.size w w1) : S30 w0 w1 N bx R :=
  ⟨h.r0.keep hb h.r0.lt, h.r1.keep hb h.r1.lt, h.r2.keep hb h.r2.lt, h.b.trans (hb.mono (Nat.le_of_lt h.r0.lt))⟩
theorem S30.alloc {w0 w : World} {N : Nat} {bx R : Nat → UInt8} (h : S30 w0 w N bx R) (o : Obj) : S30 w0 (w.alloc o) N bx R :=
  ⟨h.r0.alloc o, h.r1.alloc o, h.r2.alloc o, h.b.alloc (Nat.le_of_lt h.r0.lt) o⟩
theorem S31.keep {w0 w w1 : World} {N m : Nat} {bx R L : Nat → UInt8} (h : S31 w0 w N m bx R L) (hb : Below w.heap.size w w1) : S31 w0 w1 N m bx R L := ⟨h.s.keep hb, h.r.keep hb h.r.lt⟩
theorem S30.tab {w0 w : World} {N : Nat} {bx R : Nat → UInt8} (h : S30 w0 w N bx R) : Tab w N 0 bx := ⟨h.r0.lt, fun i hi => by rw [Nat.zero_add]; exact h.r0.cell i hi⟩

set_option maxRecDepth 100000 in
set_option maxHeartbeats 4000000 in
theorem schedule_any (s : ByteArray) (r : Nat) (hs : s.size = 16 ∨ s.size = 24 ∨ s.size = 32) (hr : 4 * r = s.size + 24) (bx : Nat → UInt8) (w : World) :
    Calls Tryz.prog 134 #[.string s, .int .i64 r, .agg (arr 256 (by8 bx))] w fun e w' =>
      e = .returned (.agg (arr 240 (by8 (kxR bx (sf s) s.size ((16 * (r + 1) - s.size) / 4)).1))) ∧ Below w.heap.size w w' := by
  have hle : s.size ≤ 32 := by omega
  have hge : 16 ≤ s.size := by omega
  have hr14 : r ≤ 14 := by omega
  have hr10 : 10 ≤ r := by omega
  have R0 : Hid _ := ((Row.new w 256 206 (by8 bx) w.heap.size rfl).alloc (.cells (arr 240 z8) 208)).alloc (.cells (arr 240 z8) 219)
  have R1 : Hid _ := ((Row.new (w.alloc (.cells (arr 256 (by8 bx)) 206)) 240 208 z8 (w.heap.size + 1) (by simp))).alloc (.cells (arr 240 z8) 219)
  have R2 : Hid _ := Row.new ((w.alloc (.cells (arr 256 (by8 bx)) 206)).alloc (.cells (arr 240 z8) 208)) 240 219 z8 (w.heap.size + 1 + 1) (by simp)
  have B0 : Hid _ := (((Below.refl w.heap.size w).alloc (Nat.le_refl _) (.cells (arr 256 (by8 bx)) 206)).alloc (by simp) (.cells (arr 240 z8) 208)).alloc (by simp; omega) (.cells (arr 240 z8) 219)
  have HS : Hid _ := hs
  have HR : Hid _ := hr
  clear hs hr
  go_enter Tryz.func134, Tryz.ntmps134
  go_wp2_with (refine cpStr rfl _ _ rfl (w.heap.size + 1 + 1) 240 240 240 219 z8 s rfl rfl R2 (by omega) (by omega) ?_; intro w1 hc r2)
  have hS1 : S30 w w1 w.heap.size bx (kxR bx (sf s) s.size 0).1 := by
    refine ⟨Row.chg R0 hc (by omega), Row.chg R1 hc (by omega), r2.congr ?_, Below.chg B0 hc (by omega)⟩
    intro j hj
    simp only [kxR, by8, z8]
    split <;> rfl
  clear hc r2 R0 R1 R2 B0
  go_loopw [9, 10] (fun c a wr => ∃ t A : Nat, Hid (A = s.size + 4 * t) ∧ s.size ≤ A ∧ A ≤ 16 * (r + 1) ∧ c = .int .u8 (kxR bx (sf s) s.size t).2.toNat ∧ a = .int .i64 A ∧ S30 w wr w.heap.size bx (kxR bx (sf s) s.size t).1) (fun _ a _ => 300 - (intOf a).toNat)
  case atStart => exact ⟨0, s.size, rfl, Nat.le_refl _, by omega, rfl, rfl, hS1⟩
  case round =>
    clear hS1
    obtain ⟨t, A, HA, hA1, hA2, rfl, rfl, hS⟩ := hrel
    by_cases hlt : A < 16 * (r + 1)
    · have hA4 : A + 4 ≤ 16 * (r + 1) := by
        have e1 := HA.out
        have e2 := HR.out
        rcases HS.out with e3 | e3 | e3 <;> omega
      have hA240 : (A : Int) + 4 ≤ 240 := by omega
      have hsl := sl62 (w.heap.size + 1 + 1) A (by omega) (by omega)
      have hdd : decide ((A : Int) < ((r : Int) + 1) * 16) = true := by simp; omega
      have q2 := heap_pos hS.r2
      have har := arr63
      have hm := ld_word (kxR bx (sf s) s.size t).1 (A - 4) (by omega)
      generalize hR : (kxR bx (sf s) s.size t).1 = R at *
      generalize hC : (kxR bx (sf s) s.size t).2 = C at *
      have HRR : Hid _ := hR
      have HCC : Hid _ := hC
      clear hR hC
      go_upto_block 2 with fail
      suffices H : ∀ W, S31 w W w.heap.size wr.heap.size bx R (fun j => R (A - 4 + j)) → Code.wp Tryz.prog _ _ _ W from H _ ⟨hS.alloc _, Row.new _ _ _ _ _ rfl⟩
      intro W hS2
      have hmN : w.heap.size + 1 + 1 < wr.heap.size := hS.r2.lt
      clear hS q2 hm hsl
      go_cut [9] (fun c wx => c = .int .u8 (if A % s.size = 0 then dbl C else C).toNat ∧ S31 w wx w.heap.size wr.heap.size bx R (sw bx s.size A C R))
      case first =>
        have c0 : W.cell? ⟨wr.heap.size, 0, none⟩ = some (.int .u8 (R (A - 4)).toNat) := hS2.r.cell 0 (by omega)
        have c1 : W.cell? ⟨wr.heap.size, 1, none⟩ = some (.int .u8 (R (A - 4 + 1)).toNat) := hS2.r.cell 1 (by omega)
        have c2 : W.cell? ⟨wr.heap.size, 2, none⟩ = some (.int .u8 (R (A - 4 + 2)).toNat) := hS2.r.cell 2 (by omega)
        have c3 : W.cell? ⟨wr.heap.size, 3, none⟩ = some (.int .u8 (R (A - 4 + 3)).toNat) := hS2.r.cell 3 (by omega)
        by_cases h0 : A % s.size = 0
        · have hb : (((A : Int) % (s.size : Int)) == 0) = true := beq_iff_eq.2 (by omega)
          have hq := quad
          have H0 : Hid _ := h0
          clear h0
          go_wp2_with (first
            | (go_at_call 150; refine (subWord_any _ 0 bx _ _ hS2.s.tab).mono ?_; rintro e w2 ⟨rfl, hb2⟩; have hS3 := hS2.keep hb2; clear c0 c1 c2 c3)
            | (refine st63' rfl _ _ rfl _ _ rfl rfl _ hS3.r ?_; intro w3 hc3 r3; have c0 : w3.cell? ⟨wr.heap.size, 0, none⟩ = some (.int .u8 (bx (R (A - 4 + 1)).toNat).toNat) := r3.cell 0 (by omega); have f0 := r3.frozen 0)
            | (go_at_call 148; refine (dbl_any _ _).mono ?_; rintro e w4 ⟨rfl, hw4⟩))
          go_meet
          refine ⟨by rw [if_pos H0.out], ⟨(hS3.s.chg hc3 hmN).setOther hmN, (r3.set 0 _).congr ?_⟩⟩
          intro j hj
          rw [u8_xor_b]
          exact sw_zero bx s.size A C R j hj H0.out
        · have hb : (((A : Int) % (s.size : Int)) == 0) = false := beq_eq_false_iff_ne.2 (by omega)
          have H0 : Hid _ := h0
          clear h0
          by_cases h32 : s.size = 32
          · by_cases h16 : A % s.size = 16
            · have hb1 : ((s.size : Int) == 32) = true := beq_iff_eq.2 (by omega)
              have hb2 : (((A : Int) % (s.size : Int)) == 16) = true := beq_iff_eq.2 (by omega)
              have H32 : Hid _ := h32
              have H16 : Hid _ := h16
              clear h32 h16 c0 c1 c2 c3
              have q3 := heap_pos hS2.r
              go_wp2_with (first
                | (go_at_call 150; refine (subWord_any _ 0 bx _ _ hS2.s.tab).mono ?_; rintro e w2 ⟨rfl, hb2⟩; have hS3 := hS2.keep hb2)
                | (refine st63' rfl _ _ rfl _ _ rfl rfl _ hS3.r ?_; intro w3 hc3 r3))
              go_meet
              refine ⟨by rw [if_neg H0.out], ⟨hS3.s.chg hc3 hmN, r3.congr ?_⟩⟩
              intro j hj
              simp only [by8, sw]
              rw [if_neg H0.out, if_pos ⟨H32.out, H16.out⟩]
            · have hb1 : ((s.size : Int) == 32) = true := beq_iff_eq.2 (by omega)
              have hb2 : (((A : Int) % (s.size : Int)) == 16) = false := beq_eq_false_iff_ne.2 (by omega)
              have H16 : Hid _ := h16
              clear h32 h16 c0 c1 c2 c3
              go_wp2
              go_meet
              refine ⟨by rw [if_neg H0.out], ⟨hS2.s, hS2.r.congr ?_⟩⟩
              intro j hj
              simp only [by8, sw]
              rw [if_neg H0.out, if_neg (fun e => H16.out e.2)]
          · have hb1 : ((s.size : Int) == 32) = false := beq_eq_false_iff_ne.2 (by omega)
            have H32 : Hid _ := h32
            clear h32 c0 c1 c2 c3
            go_wp2
            go_meet
            refine ⟨by rw [if_neg H0.out], ⟨hS2.s, hS2.r.congr ?_⟩⟩
            intro j hj
            simp only [by8, sw]
            rw [if_neg H0.out, if_neg (fun e => H32.out e.1)]
      case rest =>
        clear hS2
        obtain ⟨rfl, hS⟩ := hcut
        generalize hC' : (if A % s.size = 0 then dbl C else C) = C' at *
        have HC' : Hid _ := hC'
        clear hC'
        have hS0 : S31 w wc w.heap.size wr.heap.size bx (fun j => if A ≤ j ∧ j < A + 0 then R (j - s.size) ^^^ sw bx s.size A C R (j - A) else R j) (sw bx s.size A C R) := by
          refine ⟨⟨hS.s.r0, hS.s.r1, hS.s.r2.congr ?_, hS.s.b⟩, hS.r⟩
          intro j hj
          simp only [by8]
          rw [if_neg (by omega)]
        go_wp2_with fail
        go_loopw [65] (fun i wx => ∃ q : Nat, q ≤ 4 ∧ i = .int .i64 q ∧ S31 w wx w.heap.size wr.heap.size bx (fun j => if A ≤ j ∧ j < A + q then R (j - s.size) ^^^ sw bx s.size A C R (j - A) else R j) (sw bx s.size A C R)) (fun i _ => 4 - (intOf i).toNat)
        case atStart => exact ⟨0, by omega, rfl, hS0⟩
        case round => 
          clear hS hS0
          obtain ⟨q, hq, rfl, hS⟩ := hrel
          by_cases hql : q < 4
          · have c1 := hS.s.r2.cell (A - s.size + q) (by omega)
            have c2 := hS.r.cell q (by omega)
            have c3 := hS.s.r2.cell (A + q) (by omega)
            have f3 := hS.s.r2.frozen (A + q)
            simp only [by8] at c1 c2 c3
            rw [if_neg (by omega)] at c1 c3
            have e1 : ((A : Int) - (s.size : Int) + (q : Int)).toNat = A - s.size + q := by omega
            go_wp2
            go_region
            go_wp2
            rw [u8_xor_b]
            refine ⟨⟨q + 1, by omega, by go_num, ⟨⟨(hS.s.r0.other (by omega)).drew, (hS.s.r1.other (by omega)).drew, ((hS.s.r2.set (A + q) _).congr ?_).drew, (hS.s.b.setCell (by simp; omega) _).drew⟩, (hS.r.other (by omega)).drew⟩⟩, by simp [intOf]; omega⟩
            intro j hj
            by_cases hjk : j = A + q
            · subst hjk
              simp only [by8, if_true]
              rw [if_pos (by omega), show A + q - s.size = A - s.size + q by omega, show A + q - A = q by omega]
            · simp only [by8, hjk, if_false]
              by_cases h3 : A ≤ j ∧ j < A + q
              · rw [if_pos h3, if_pos (by omega)]
              · rw [if_neg h3, if_neg (by omega)]
          · have hq4 : q = 4 := by omega
            subst hq4
            go_wp2
            refine ⟨⟨t + 1, A + 4, by have := HA.out; show A + 4 = _; omega, by omega, hA4, ?_, by go_num, ?_⟩, by simp [intOf]; omega⟩
            · have := HA.out
              simp only [kxR]
              rw [HCC.out, ← this, HC'.out]
            · have := HA.out
              simp only [kxR]
              rw [HCC.out, HRR.out, ← this]
              exact hS.s
    · have hAe : A = 16 * (r + 1) := by omega
      have r1 := hS.r1
      have r2 := hS.r2
      have hk : (kxR bx (sf s) s.size t).1 = (kxR bx (sf s) s.size ((16 * (r + 1) - s.size) / 4)).1 := by
        have := HA.out
        rw [show (16 * (r + 1) - s.size) / 4 = t by omega]
      have hdd : decide ((A : Int) < ((r : Int) + 1) * 16) = false := by simp; omega
      generalize hR : (kxR bx (sf s) s.size t).1 = R at *
      have HK : Hid _ := hk
      clear hR hk hAe
      clear r1 r2
      have hmN : w.heap.size + 1 + 1 < wr.heap.size := hS.r2.lt
      go_wp2_with fail
      go_loopw [84] (fun i wx => ∃ q : Nat, q ≤ 15 ∧ i = .int .i64 q ∧ S32 w wx w.heap.size wr.heap.size R (fun j => if j < 16 * q then R j else 0)) (fun i _ => 15 - (intOf i).toNat)
      case atStart =>
        refine ⟨0, by omega, rfl, ⟨hS.r1.alloc _, hS.r2.alloc _, ?_, hS.b.alloc hS.b.size _⟩⟩
        refine Row.congr (V := z8) (Row.new _ _ _ _ _ rfl) ?_
        intro j hj
        simp [z8, by8]
      case round =>
        clear hS
        obtain ⟨q, hq, rfl, hS⟩ := hrel
        by_cases hql : q < 15
        · have hsl := sl62l (w.heap.size + 1 + 1) q hql
          have hwq : IntKind.i64.wrap ((q : Int) * 16) = (q : Int) * 16 := by rw [IntKind.wrap_i64]; omega
          go_wp2_with fail
          go_region_law (refine step_cpK (by rfl) (.tmp 89) (.tmp 92) (by rfl) _ _ q hql (by rfl) (by rfl) _ R hS.r3.drew hS.r2.drew ?_; intro w5 hc5 r5)
          go_wp2
          go_roundw
          case rel =>
            refine ⟨q + 1, by omega, by go_num, ⟨hS.r1.drew.chg hc5 (by omega), hS.r2.drew.chg hc5 (by omega), r5.congr ?_, Below.chg hS.b.drew hc5 (by omega)⟩⟩
            intro j hj
            by_cases h3 : q * 16 ≤ j ∧ j < q * 16 + 16
            · rw [if_pos h3]
              simp only [by8]
              rw [if_pos (by omega)]
            · rw [if_neg h3]
              simp only [by8]
              by_cases h4 : j < 16 * q
              · rw [if_pos h4, if_pos (by omega)]
              · rw [if_neg h4, if_neg (by omega)]
          case measure => simp [intOf]; omega
        · have hq15 : q = 15 := by omega
          subst hq15
          have q1 := heap_pos hS.r1
          have r3 : Row wr _ 240 208 (by8 R) := hS.r3.congr (fun j hj => by simp only [by8]; rw [if_pos (by omega)])
          have q3 := heap_pos r3
          go_wp2
          refine bodyPost_ret (res52 Tryz.results134 _ _ (w.heap.size + 1) _ rfl _ hS.r1.setRow) rfl ⟨by rw [HK.out], ?_⟩
          exact Below.setRow hS.b (by omega) _
end Go.Proofs.YtgalgjmhdbncbaaGreat
namespace Go.Proofs.YtgalgjmhdbncbaaGreat
open Go.RowKit
attribute [local go_sem ↓] Go.wp_at_zero Go.wp_at_succ
attribute [local go_sem ↓] ldw40 ldw50 ldw60 ldw63 ldw52 stw40 stw50 stw63 stw52 al40 al50 al60 al62 al63 al52 bd50 bd55
attribute [local go_sem] run_ldT40 run_ldT50 run_ldT60 run_ldT63 run_ldT52 ldN_row run_stT40 run_stT50 run_stT63 run_stT52 stN_row stN_z run_al40 run_al50 run_al60 run_al62 run_al63 run_al52 run_bd50 run_bd55
attribute [local go_sem] blk_new blk_at blk_old blk_drew blk_setCell blk_setRow alloc_setRow

def ksF (key : Nat → UInt8) (n : Nat) : Nat → UInt8 := (kxR sbx key n ((16 * (n / 4 + 7) - n) / 4)).1

def Cip (w : World) (g r : Nat) (ks : Nat → UInt8) : Prop := Row w g 497 211 (ciph r ks sbx)

theorem schedule_k (s : ByteArray) (k : Nat) (h1 : 1 ≤ k) (h2 : k ≤ 3) (hs : s.size = 8 + 8 * k) (w : World) :
    Calls Tryz.prog 134 #[.string s, .int .i64 (8 + 2 * (k : Int)), .agg (arr 256 (by8 sbx))] w fun e w' =>
      e = .returned (.agg (arr 240 (by8 (ksF (sf s) s.size)))) ∧ Below w.heap.size w w' := by
  have h := schedule_any s (8 + 2 * k) (by omega) (by omega) sbx w
  rw [show ((8 + 2 * k : Nat) : Int) = 8 + 2 * (k : Int) by omega, show 8 + 2 * k + 1 = s.size / 4 + 7 by omega] at h
  exact h
theorem bd_k (k : Nat) (ks bx : Nat → UInt8) (w : World) : Sem.run Tryz.prog (Bd 211 #[(0, .int .i64 (8 + 2 * (k : Int))), (1, .agg (arr 240 (by8 ks))), (2, .agg (arr 256 (by8 bx)))]) w = .ok (.agg (arr 497 (ciph (8 + 2 * k) ks bx))) w := by
  have h := run_bd55 (8 + 2 * k) ks bx w
  rw [show ((8 + 2 * k : Nat) : Int) = 8 + 2 * (k : Int) by omega] at h
  exact h
set_option maxRecDepth 100000 in
set_option maxHeartbeats 1000000 in
theorem new_no (s : ByteArray) (hs : s.size ≤ maxLen) (h1 : s.size ≠ 16) (h2 : s.size ≠ 24) (h3 : s.size ≠ 32) (w : World) :
    Calls Tryz.prog 113 #[.string s] w fun e w' => e = .returned (.tuple #[.pointer none, .bool false]) ∧ w' = w := by
  have H1 : Hid _ := h1
  have H2 : Hid _ := h2
  have H3 : Hid _ := h3
  clear h1 h2 h3
  go_enter Tryz.func113, Tryz.ntmps113
  go_wp2_with fail
  refine (alg_any s hs _).mono ?_
  rintro e w1 ⟨he, hw⟩
  subst hw
  rcases he with ⟨k, hk1, hk2, hk3, rfl⟩ | ⟨_, _, _, rfl⟩
  · exfalso
    have : k = 1 ∨ k = 2 ∨ k = 3 := by omega
    rcases this with rfl | rfl | rfl
    · exact H1.out hk3
    · exact H2.out hk3
    · exact H3.out hk3
  · go_wp2
    go_ret2
    exact ⟨rfl, rfl⟩

set_option maxRecDepth 100000 in
set_option maxHeartbeats 1000000 in
theorem new_yes (s : ByteArray) (hs : s.size ≤ maxLen) (h : s.size = 16 ∨ s.size = 24 ∨ s.size = 32) (w : World) :
    Calls Tryz.prog 113 #[.string s] w fun e w' => ∃ g, e = .returned (.tuple #[.pointer (some ⟨g, 0, none⟩), .bool true]) ∧ w.heap.size ≤ g ∧ Cip w' g (s.size / 4 + 6) (ksF (sf s) s.size) ∧ Below w.heap.size w w' := by
  have H : Hid _ := h
  clear h
  go_enter Tryz.func113, Tryz.ntmps113
  go_wp2_with fail
  refine (alg_any s hs _).mono ?_
  rintro e w1 ⟨he, hw⟩
  subst hw
  rcases he with ⟨k, hk1, hk2, hk3, rfl⟩ | ⟨a1, a2, a3, rfl⟩
  · have HK : Hid _ := hk3
    clear hk3
    have hk0 : ((k : Int) == 0) = false := beq_eq_false_iff_ne.2 (by omega)
    go_wp2_with fail
    refine (sizes_any k hk1 hk2 _).mono ?_
    rintro e w2 ⟨rfl, hw⟩
    subst hw
    go_wp2_with fail
    refine (newSub_any _).mono ?_
    rintro e w3 ⟨rfl, hb3⟩
    have hbd := bd_k k
    go_wp2_with fail
    suffices HH : ∀ W, Row W w3.heap.size 256 206 (by8 sbx) → Below w2.heap.size w2 W → Code.wp Tryz.prog _ _ _ W from HH _ (Row.new _ _ _ _ _ rfl) (hb3.alloc hb3.size _)
    intro W rW bW
    have hsz := hb3.size
    clear hb3
    have qW := heap_pos rW
    go_region_with (first
      | (go_at_call 134; refine (schedule_k s k hk1 hk2 HK _).mono ?_; rintro e w4 ⟨rfl, hb4⟩; have bW4 := bW.drew.trans (hb4.mono bW.size); have qW4 := heap_pos (rW.drew.keep hb4 rW.lt)))
    all_goals
      go_wp2
      go_ret2
      refine ⟨w4.heap.size, rfl, bW4.size, ?_, bW4.alloc bW4.size _⟩
      have hk := HK.out
      rw [show s.size / 4 + 6 = 8 + 2 * k by omega]
      exact Row.new _ _ _ _ _ rfl
  · exfalso
    have := H.out
    omega

theorem Cip.tab {w : World} {g r : Nat} {ks : Nat → UInt8} (h : Cip w g r ks) : Tab w g 241 sbx := by
  refine ⟨Row.lt h, fun i hi => ?_⟩
  rw [Row.cell h (241 + i) (by omega)]
  unfold ciph
  rw [if_neg (by omega), if_neg (by omega), show 241 + i - 241 = i by omega]
  rfl
theorem Cip.rounds {w : World} {g r : Nat} {ks : Nat → UInt8} (h : Cip w g r ks) : w.cell? ⟨g, 0, none⟩ = some (.int .i64 r) := Row.cell h 0 (by omega)
theorem Cip.keep {w w1 : World} {g r : Nat} {ks : Nat → UInt8} (h : Cip w g r ks) (hb : Below w.heap.size w w1) : Cip w1 g r ks := Row.keep h hb (Row.lt h)
theorem Cip.pos {w : World} {g r : Nat} {ks : Nat → UInt8} (h : Cip w g r ks) : blk w g = some (.cells (arr 497 (ciph r ks sbx)) 211 (0, 0)) := h

def ssF (f : Nat → UInt8) (j : Nat) : UInt8 := sbx (f ((j + j % 4 * 4) % 16)).toNat
def stF (ks f : Nat → UInt8) : Nat → Nat → UInt8
  | 0 => fun j => f j ^^^ ks (16 * 0 + j)
  | i + 1 => fun j => mx (ssF (stF ks f i)) j ^^^ ks (16 * (i + 1) + j)
def encF (ks f : Nat → UInt8) (r : Nat) (j : Nat) : UInt8 := ssF (stF ks f (r - 1)) j ^^^ ks (16 * r + j)

structure S21 (w0 w : World) (n g r : Nat) (ks y : Nat → UInt8) : Prop where
  c : Cip w g r ks
  r0 : Row w n 16 145 (by8 y)
  r1 : Row w (n + 1) 16 145 z8
  b : Below n w0 w
theorem S21.drew {w0 w : World} {n g r : Nat} {ks y : Nat → UInt8} (h : S21 w0 w n g r ks y) : S21 w0 w.drew n g r ks y := ⟨h.c, h.r0, h.r1, h.b.drew⟩
theorem S21.keep {w0 w w1 : World} {n g r : Nat} {ks y : Nat → UInt8} (h : S21 w0 w n g r ks y) (hb : Below w.heap.size w w1) : S21 w0 w1 n g r ks y :=
  ⟨h.c.keep hb, h.r0.keep hb h.r0.lt, h.r1.keep hb h.r1.lt, h.b.trans (hb.mono (Nat.le_of_lt h.r0.lt))⟩

set_option maxRecDepth 100000 in
set_option maxHeartbeats 2000000 in
theorem cipher_any (g r : Nat) (ks f : Nat → UInt8) (hr : 2 ≤ r) (hr14 : r ≤ 14) (w : World) (hc : Cip w g r ks) :
    Calls Tryz.prog 114 #[.pointer (some ⟨g, 0, none⟩), .agg (arr 16 (by8 f))] w fun e w' => e = .returned (.agg (arr 16 (by8 (encF ks f r)))) ∧ Below w.heap.size w w' := by
  have hgw : g < w.heap.size := Row.lt hc
  have hk0 := fun w r' => ldN_key r ks sbx 0 w r' (by omega)
  go_enter Tryz.func114, Tryz.ntmps114
  go_wp2_with fail
  suffices HH : ∀ W, S21 w W w.heap.size g r ks f → Code.wp Tryz.prog _ _ _ W from HH _ ⟨(hc.alloc _).alloc _, (Row.new _ _ _ _ _ rfl).alloc _, Row.new _ _ _ _ _ (by simp), ((Below.refl _ _).alloc (Nat.le_refl _) _).alloc (by simp) _⟩
  intro W hS
  clear hc
  have qc := hS.c.pos
  have q0 := heap_pos hS.r0
  go_cut [5] (fun _ wx => S21 w wx w.heap.size g r ks (stF ks f 0))
  case first =>
    go_region_with (first
      | (go_at_call 135; refine (bxor_any _ _ _).mono ?_; rintro e w2 ⟨rfl, hb2⟩; have hS2 := hS.drew.keep hb2; have q0 := heap_pos hS2.r0))
    all_goals
      go_wp2
      go_meet
      refine ⟨Row.setRow_other hS2.c (by omega), hS2.r0.setRow.congr ?_, hS2.r1.setRow_other (by omega), Below.setRow hS2.b (Nat.le_refl _) _⟩
      intro j hj
      simp only [stF, by8, Nat.mul_zero, Nat.zero_add]
  case rest =>
    clear hS q0 qc
    have hS := hcut
    clear hcut
    have hk0' := hk0
    clear hk0 hk0'
    go_wp2_with fail
    go_loopw [5] (fun i wr => ∃ k : Nat, 1 ≤ k ∧ k ≤ r ∧ i = .int .i64 k ∧ S21 w wr w.heap.size g r ks (stF ks f (k - 1))) (fun i _ => r - (intOf i).toNat)
    case atStart => exact ⟨1, Nat.le_refl _, by omega, rfl, hS⟩
    case round =>
      clear hS
      obtain ⟨k, hk1, hk2, rfl, hS⟩ := hrel
      have cr := hS.c.rounds
      have qc := hS.c.pos
      by_cases hlt : k < r
      · have hkk := fun w r' => ldN_key r ks sbx k w r' (by omega)
        have q0 := heap_pos hS.r0
        have hst : stF ks f (k + 1 - 1) = fun j => mx (ssF (stF ks f (k - 1))) j ^^^ ks (16 * k + j) := by
          rw [show k + 1 - 1 = k - 1 + 1 by omega]
          funext j
          show mx (ssF (stF ks f (k - 1))) j ^^^ ks (16 * (k - 1 + 1) + j) = _
          rw [show k - 1 + 1 = k by omega]
        have HST : Hid _ := hst
        clear hst
        generalize stF ks f (k - 1) = y at *
        go_wp2_with fail
        go_region_with (first
          | (go_at_call 138; refine (subBlock_any g 241 sbx _ _ hS.drew.c.tab).mono ?_; rintro e w2 ⟨rfl, hb2⟩; have hS2 := hS.drew.keep hb2; have qc := hS2.c.pos)
          | (go_at_call 137; refine (shifted_any _ _).mono ?_; rintro e w3 ⟨rfl, hb3⟩; have hS3 := hS2.keep hb3; have qc := hS3.c.pos)
          | (go_at_call 136; refine (mixed_any _ _).mono ?_; rintro e w4 ⟨rfl, hb4⟩; have hS4 := hS3.keep hb4; have qc := hS4.c.pos)
          | (go_at_call 135; refine (bxor_any _ _ _).mono ?_; rintro e w5 ⟨rfl, hb5⟩; have hS5 := hS4.keep hb5; have q0 := heap_pos hS5.r0))
        all_goals
          go_wp2
          refine ⟨⟨k + 1, by omega, by omega, by go_num, ?_⟩, by simp [intOf]; omega⟩
          refine ⟨Row.setRow_other hS5.c (by omega), hS5.r0.setRow.congr ?_, hS5.r1.setRow_other (by omega), Below.setRow hS5.b (Nat.le_refl _) _⟩
          intro j hj
          rw [HST.out]
          rfl
      · have hkr : k = r := by omega
        subst hkr
        have hkk := fun w r' => ldN_key k ks sbx k w r' (by omega)
        have q0 := heap_pos hS.r0
        have hst : encF ks f k = fun j => ssF (stF ks f (k - 1)) j ^^^ ks (16 * k + j) := rfl
        have HST : Hid _ := hst
        clear hst
        generalize stF ks f (k - 1) = y at *
        have hki : (0 : Int) ≤ (k : Int) := by omega
        have hki2 : (k : Int) < 15 := by omega
        go_wp2_with fail
        go_region_with (first
          | (go_at_call 138; refine (subBlock_any g 241 sbx _ _ hS.drew.c.tab).mono ?_; rintro e w2 ⟨rfl, hb2⟩; have hS2 := hS.drew.keep hb2; have qc := hS2.c.pos; have cr := hS2.c.rounds)
          | (go_at_call 137; refine (shifted_any _ _).mono ?_; rintro e w3 ⟨rfl, hb3⟩; have hS3 := hS2.keep hb3; have qc := hS3.c.pos; have cr := hS3.c.rounds)
          | (go_at_call 135; refine (bxor_any _ _ _).mono ?_; rintro e w5 ⟨rfl, hb5⟩; have hS5 := hS3.keep hb5; have q1 := heap_pos hS5.r1))
        all_goals
          go_wp2
          refine bodyPost_ret (res40 Tryz.results114 _ _ (w.heap.size + 1) _ rfl hS5.r1.setRow) rfl ⟨by rw [HST.out]; rfl, ?_⟩
          exact Below.setRow hS5.b (by omega) _
end Go.Proofs.YtgalgjmhdbncbaaGreat
namespace Go.Proofs.YtgalgjmhdbncbaaGreat
open Go.RowKit
attribute [local go_sem ↓] Go.wp_at_zero Go.wp_at_succ
attribute [local go_sem ↓] ldw40 ldw50 ldw60 ldw63 ldw52 stw40 stw50 stw63 stw52 al40 al50 al60 al62 al63 al52 bd50 bd55
attribute [local go_sem] run_ldT40 run_ldT50 run_ldT60 run_ldT63 run_ldT52 ldN_row run_stT40 run_stT50 run_stT63 run_stT52 stN_row stN_z run_al40 run_al50 run_al60 run_al62 run_al63 run_al52 run_bd50 run_bd55
attribute [local go_sem] blk_new blk_at blk_old blk_drew blk_setCell blk_setRow alloc_setRow

def aesF (key f : Nat → UInt8) (n : Nat) : Nat → UInt8 := encF (ksF key n) f (n / 4 + 6)

set_option maxRecDepth 100000 in
set_option maxHeartbeats 1000000 in
theorem enc_key (key block : ByteArray) (hs : key.size ≤ maxLen) (h1 : key.size ≠ 16) (h2 : key.size ≠ 24) (h3 : key.size ≠ 32) (w : World) :
    Calls Tryz.prog 89 #[.string key, .string block] w fun e w' => e = .returned (.tuple #[.string ⟨#[]⟩, .int .i64 2]) ∧ Below w.heap.size w w' := by
  have H1 : Hid _ := h1
  have H2 : Hid _ := h2
  have H3 : Hid _ := h3
  clear h1 h2 h3
  go_enter Tryz.func89, Tryz.ntmps89
  go_wp2_with fail
  refine (new_no key hs H1 H2 H3 _).mono ?_
  rintro e w1 ⟨rfl, hw⟩
  subst hw
  go_wp2
  go_ret2
  exact ⟨rfl, Below.refl _ _⟩
set_option maxRecDepth 100000 in
set_option maxHeartbeats 1000000 in
theorem enc_size (key block : ByteArray) (hs : key.size ≤ maxLen) (h : key.size = 16 ∨ key.size = 24 ∨ key.size = 32) (hb : block.size ≠ 16) (w : World) :
    Calls Tryz.prog 89 #[.string key, .string block] w fun e w' => e = .returned (.tuple #[.string ⟨#[]⟩, .int .i64 5]) ∧ Below w.heap.size w w' := by
  have H : Hid _ := h
  have HB : Hid _ := hb
  clear h hb
  go_enter Tryz.func89, Tryz.ntmps89
  go_wp2_with fail
  refine (new_yes key hs H _).mono ?_
  rintro e w1 ⟨g, rfl, hg, hc, hb1⟩
  go_wp2_with fail
  refine (of_no _ _ HB).mono ?_
  rintro e w2 ⟨rfl, hb2⟩
  go_wp2
  go_ret2
  exact ⟨rfl, (hb1.trans (hb2.mono hb1.size)).alloc (by have := hb1.size; have := hb2.size; omega) _⟩
set_option maxRecDepth 100000 in
set_option maxHeartbeats 1000000 in
theorem enc_ok (key block : ByteArray) (hs : key.size ≤ maxLen) (h : key.size = 16 ∨ key.size = 24 ∨ key.size = 32) (hb : block.size = 16) (w : World) :
    Calls Tryz.prog 89 #[.string key, .string block] w fun e w' => e = .returned (.tuple #[.string (str 16 (aesF (sf key) (sf block) key.size)), .int .i64 0]) ∧ Below w.heap.size w w' := by
  have hr1 : 2 ≤ key.size / 4 + 6 := by omega
  have hr2 : key.size / 4 + 6 ≤ 14 := by omega
  have H : Hid _ := h
  have HB : Hid _ := hb
  clear h hb
  go_enter Tryz.func89, Tryz.ntmps89
  go_wp2_with fail
  refine (new_yes key hs H _).mono ?_
  rintro e w1 ⟨g, rfl, hg, hc, hb1⟩
  go_wp2_with fail
  refine (of_yes _ _ HB).mono ?_
  rintro e w2 ⟨rfl, hb2⟩
  have hc2 := hc.keep hb2
  have hcg : g < w2.heap.size := Row.lt hc2
  go_wp2_with fail
  refine (cipher_any g _ _ _ hr1 hr2 _ (hc2.alloc _)).mono ?_
  rintro e w3 ⟨rfl, hb3⟩
  go_wp2_with fail
  refine (text_any _ _).mono ?_
  rintro e w4 ⟨rfl, hb4⟩
  go_wp2
  go_ret2
  have z1 := hb1.size
  have z2 := hb2.size
  have z3 := hb3.size
  simp at z3
  exact ⟨rfl, (((hb1.trans (hb2.mono hb1.size)).alloc (by omega) _).trans (hb3.mono (by simp; omega))).trans (hb4.mono (by omega))⟩
end Go.Proofs.YtgalgjmhdbncbaaGreat
namespace Go.Proofs.YtgalgjmhdbncbaaGreat
def sbL : List UInt8 := [99, 124, 119, 123, 242, 107, 111, 197, 48, 1, 103, 43, 254, 215, 171, 118, 202, 130, 201, 125, 250, 89, 71, 240, 173, 212, 162, 175, 156, 164, 114, 192, 183, 253, 147, 38, 54, 63, 247, 204, 52, 165, 229, 241, 113, 216, 49, 21, 4, 199, 35, 195, 24, 150, 5, 154, 7, 18, 128, 226, 235, 39, 178, 117, 9, 131, 44, 26, 27, 110, 90, 160, 82, 59, 214, 179, 41, 227, 47, 132, 83, 209, 0, 237, 32, 252, 177, 91, 106, 203, 190, 57, 74, 76, 88, 207, 208, 239, 170, 251, 67, 77, 51, 133, 69, 249, 2, 127, 80, 60, 159, 168, 81, 163, 64, 143, 146, 157, 56, 245, 188, 182, 218, 33, 16, 255, 243, 210, 205, 12, 19, 236, 95, 151, 68, 23, 196, 167, 126, 61, 100, 93, 25, 115, 96, 129, 79, 220, 34, 42, 144, 136, 70, 238, 184, 20, 222, 94, 11, 219, 224, 50, 58, 10, 73, 6, 36, 92, 194, 211, 172, 98, 145, 149, 228, 121, 231, 200, 55, 109, 141, 213, 78, 169, 108, 86, 244, 234, 101, 122, 174, 8, 186, 120, 37, 46, 28, 166, 180, 198, 232, 221, 116, 31, 75, 189, 139, 138, 112, 62, 181, 102, 72, 3, 246, 14, 97, 53, 87, 185, 134, 193, 29, 158, 225, 248, 152, 17, 105, 217, 142, 148, 155, 30, 135, 233, 206, 85, 40, 223, 140, 161, 137, 13, 191, 230, 66, 104, 65, 153, 45, 15, 176, 84, 187, 22]
def invL : List Nat := [82, 9, 106, 213, 48, 54, 165, 56, 191, 64, 163, 158, 129, 243, 215, 251, 124, 227, 57, 130, 155, 47, 255, 135, 52, 142, 67, 68, 196, 222, 233, 203, 84, 123, 148, 50, 166, 194, 35, 61, 238, 76, 149, 11, 66, 250, 195, 78, 8, 46, 161, 102, 40, 217, 36, 178, 118, 91, 162, 73, 109, 139, 209, 37, 114, 248, 246, 100, 134, 104, 152, 22, 212, 164, 92, 204, 93, 101, 182, 146, 108, 112, 72, 80, 253, 237, 185, 218, 94, 21, 70, 87, 167, 141, 157, 132, 144, 216, 171, 0, 140, 188, 211, 10, 247, 228, 88, 5, 184, 179, 69, 6, 208, 44, 30, 143, 202, 63, 15, 2, 193, 175, 189, 3, 1, 19, 138, 107, 58, 145, 17, 65, 79, 103, 220, 234, 151, 242, 207, 206, 240, 180, 230, 115, 150, 172, 116, 34, 231, 173, 53, 133, 226, 249, 55, 232, 28, 117, 223, 110, 71, 241, 26, 113, 29, 41, 197, 137, 111, 183, 98, 14, 170, 24, 190, 27, 252, 86, 62, 75, 198, 210, 121, 32, 154, 219, 192, 254, 120, 205, 90, 244, 31, 221, 168, 51, 136, 7, 199, 49, 177, 18, 16, 89, 39, 128, 236, 95, 96, 81, 127, 169, 25, 181, 74, 13, 45, 229, 122, 159, 147, 201, 156, 239, 160, 224, 59, 77, 174, 42, 245, 176, 200, 235, 187, 60, 131, 83, 153, 97, 23, 43, 4, 126, 186, 119, 214, 38, 225, 105, 20, 99, 85, 33, 12, 125]
def W16 : List UInt8 := [0, 1, 2, 3, 4, 5, 6, 7, 8, 9, 10, 11, 12, 13, 14, 15, 214, 170, 116, 253, 210, 175, 114, 250, 218, 166, 120, 241, 214, 171, 118, 254, 182, 146, 207, 11, 100, 61, 189, 241, 190, 155, 197, 0, 104, 48, 179, 254, 182, 255, 116, 78, 210, 194, 201, 191, 108, 89, 12, 191, 4, 105, 191, 65, 71, 247, 247, 188, 149, 53, 62, 3, 249, 108, 50, 188, 253, 5, 141, 253, 60, 170, 163, 232, 169, 159, 157, 235, 80, 243, 175, 87, 173, 246, 34, 170, 94, 57, 15, 125, 247, 166, 146, 150, 167, 85, 61, 193, 10, 163, 31, 107, 20, 249, 112, 26, 227, 95, 226, 140, 68, 10, 223, 77, 78, 169, 192, 38, 71, 67, 135, 53, 164, 28, 101, 185, 224, 22, 186, 244, 174, 191, 122, 210, 84, 153, 50, 209, 240, 133, 87, 104, 16, 147, 237, 156, 190, 44, 151, 78, 19, 17, 29, 127, 227, 148, 74, 23, 243, 7, 167, 139, 77, 43, 48, 197]
def T16 : List (List UInt8) := [[0, 16, 32, 48, 64, 80, 96, 112, 128, 144, 160, 176, 192, 208, 224, 240],
  [137, 216, 16, 232, 133, 90, 206, 104, 45, 24, 67, 216, 203, 18, 143, 228],
  [73, 21, 89, 143, 85, 229, 215, 160, 218, 202, 148, 250, 31, 10, 99, 247],
  [250, 99, 106, 40, 37, 179, 57, 201, 64, 102, 138, 49, 87, 36, 77, 23],
  [36, 114, 64, 35, 105, 102, 179, 250, 110, 210, 117, 50, 136, 66, 91, 108],
  [200, 22, 119, 188, 155, 122, 201, 59, 37, 2, 121, 146, 176, 38, 25, 150],
  [198, 47, 225, 9, 247, 94, 237, 195, 204, 121, 57, 93, 132, 249, 207, 93],
  [209, 135, 108, 15, 121, 196, 48, 10, 180, 85, 148, 173, 214, 111, 244, 31],
  [253, 227, 186, 210, 5, 229, 208, 215, 53, 71, 150, 78, 241, 254, 55, 241],
  [189, 110, 124, 61, 242, 181, 119, 158, 11, 97, 33, 110, 139, 16, 182, 137]]
def O16 : List UInt8 := [105, 196, 224, 216, 106, 123, 4, 48, 216, 205, 183, 128, 112, 180, 197, 90]
def W32 : List UInt8 := [0, 1, 2, 3, 4, 5, 6, 7, 8, 9, 10, 11, 12, 13, 14, 15, 16, 17, 18, 19, 20, 21, 22, 23, 24, 25, 26, 27, 28, 29, 30, 31, 165, 115, 194, 159, 161, 118, 196, 152, 169, 127, 206, 147, 165, 114, 192, 156, 22, 81, 168, 205, 2, 68, 190, 218, 26, 93, 164, 193, 6, 64, 186, 222, 174, 135, 223, 240, 15, 241, 27, 104, 166, 142, 213, 251, 3, 252, 21, 103, 109, 225, 241, 72, 111, 165, 79, 146, 117, 248, 235, 83, 115, 184, 81, 141, 198, 86, 130, 127, 201, 167, 153, 23, 111, 41, 76, 236, 108, 213, 89, 139, 61, 226, 58, 117, 82, 71, 117, 231, 39, 191, 158, 180, 84, 7, 207, 57, 11, 220, 144, 95, 194, 123, 9, 72, 173, 82, 69, 164, 193, 135, 28, 47, 69, 245, 166, 96, 23, 178, 211, 135, 48, 13, 77, 51, 100, 10, 130, 10, 124, 207, 247, 28, 190, 180, 254, 84, 19, 230, 187, 240, 210, 97, 167, 223, 240, 26, 250, 254, 231, 168, 41, 121, 215, 165, 100, 74, 179, 175, 230, 64, 37, 65, 254, 113, 155, 245, 0, 37, 136, 19, 187, 213, 90, 114, 28, 10, 78, 90, 102, 153, 169, 242, 79, 224, 126, 87, 43, 170, 205, 248, 205, 234, 36, 252, 121, 204, 191, 9, 121, 233, 55, 26, 194, 60, 109, 104, 222, 54]
def T32 : List (List UInt8) := [[0, 16, 32, 48, 64, 80, 96, 112, 128, 144, 160, 176, 192, 208, 224, 240],
  [79, 99, 118, 6, 67, 224, 170, 133, 239, 167, 33, 50, 1, 164, 231, 5],
  [24, 89, 251, 194, 138, 28, 0, 160, 120, 237, 138, 173, 196, 47, 97, 9],
  [151, 92, 102, 193, 203, 159, 63, 168, 169, 58, 40, 223, 142, 225, 15, 99],
  [28, 5, 242, 113, 164, 23, 224, 79, 249, 33, 197, 193, 4, 112, 21, 84],
  [195, 87, 170, 225, 27, 69, 183, 176, 162, 199, 189, 40, 168, 220, 153, 250],
  [127, 7, 65, 67, 203, 78, 36, 62, 193, 12, 129, 93, 131, 117, 213, 76],
  [214, 83, 164, 105, 108, 160, 188, 15, 90, 202, 171, 93, 185, 108, 94, 125],
  [90, 168, 88, 57, 95, 210, 141, 125, 5, 225, 163, 136, 104, 243, 185, 197],
  [74, 130, 72, 81, 197, 126, 126, 71, 100, 61, 229, 12, 42, 243, 232, 201],
  [193, 73, 7, 246, 202, 59, 58, 160, 112, 233, 170, 49, 59, 82, 181, 236],
  [95, 156, 106, 191, 186, 198, 52, 170, 80, 64, 159, 167, 102, 103, 118, 83],
  [81, 102, 4, 149, 67, 83, 149, 3, 20, 251, 134, 228, 1, 146, 37, 33],
  [98, 123, 206, 185, 153, 157, 90, 170, 201, 69, 236, 244, 35, 245, 109, 165]]
def O32 : List UInt8 := [142, 162, 183, 202, 81, 103, 69, 191, 234, 252, 73, 144, 75, 73, 96, 137]
set_option maxRecDepth 100000 in
theorem boxL_lit : boxL 255 = sbL := by decide +kernel
def sbG (j : Nat) : UInt8 := sbL.getD j 0
theorem sbx_eq : sbx = sbG := by
  funext j
  show (boxL 255).getD j 0 = sbL.getD j 0
  rw [boxL_lit]
set_option maxRecDepth 100000 in
theorem inv_sb : ∀ i : Fin 256, invL.getD (sbG i.val).toNat 0 = i.val := by decide +kernel
theorem sbx_inj (a b : UInt8) (h : sbx a.toNat = sbx b.toNat) : a = b := by
  rw [sbx_eq] at h
  have h1 := inv_sb ⟨a.toNat, a.toNat_lt⟩
  have h2 := inv_sb ⟨b.toNat, b.toNat_lt⟩
  simp only at h1 h2
  rw [h] at h1
  exact UInt8.toNat_inj.1 (h1.symm.trans h2)

theorem dbl_alt : ∀ n : Fin 256, dbl (UInt8.ofNat n.val) = (UInt8.ofNat n.val <<< 1) ^^^ (if (UInt8.ofNat n.val).toBitVec.getLsbD 7 = true then 27 else 0) := by decide +kernel
theorem dbl_alt' (b : UInt8) : dbl b = (b <<< 1) ^^^ (if b.toBitVec.getLsbD 7 = true then 27 else 0) := by
  have h := dbl_alt ⟨b.toNat, b.toNat_lt⟩
  simp only [UInt8.ofNat_toNat] at h
  exact h
theorem shl_xor (a b : UInt8) : (a ^^^ b) <<< 1 = (a <<< 1) ^^^ (b <<< 1) := by
  apply UInt8.eq_of_toBitVec_eq
  apply BitVec.eq_of_getLsbD_eq
  intro i hi
  simp
  by_cases h : i = 0
  · simp [h]
  · simp [h, hi]
theorem x_can (a b : UInt8) : a ^^^ (a ^^^ b) = b := by rw [← UInt8.xor_assoc, UInt8.xor_self, UInt8.zero_xor]
theorem x_lc (a b c : UInt8) : a ^^^ (b ^^^ c) = b ^^^ (a ^^^ c) := by rw [← UInt8.xor_assoc, UInt8.xor_comm a b, UInt8.xor_assoc]
theorem dbl_xor (a b : UInt8) : dbl (a ^^^ b) = dbl a ^^^ dbl b := by
  rw [dbl_alt', dbl_alt', dbl_alt', shl_xor]
  have h : (a ^^^ b).toBitVec.getLsbD 7 = (a.toBitVec.getLsbD 7 ^^ b.toBitVec.getLsbD 7) := by simp
  rw [h]
  generalize a <<< 1 = x
  generalize b <<< 1 = y
  cases a.toBitVec.getLsbD 7 <;> cases b.toBitVec.getLsbD 7 <;> simp [UInt8.xor_assoc, UInt8.xor_comm, x_lc]
set_option maxHeartbeats 1000000 in
theorem sumM (a b c d s : UInt8) : (a ^^^ s ^^^ dbl (a ^^^ b)) ^^^ (b ^^^ s ^^^ dbl (b ^^^ c)) ^^^ (c ^^^ s ^^^ dbl (c ^^^ d)) ^^^ (d ^^^ s ^^^ dbl (d ^^^ a)) = a ^^^ b ^^^ c ^^^ d := by
  simp only [dbl_xor]
  generalize dbl a = da
  generalize dbl b = db
  generalize dbl c = dc
  generalize dbl d = dd
  simp only [UInt8.xor_comm, x_lc, x_can, UInt8.xor_self, UInt8.xor_zero]
set_option maxHeartbeats 1000000 in
theorem keyM (x y z s : UInt8) : (x ^^^ s ^^^ dbl (x ^^^ y)) ^^^ s ^^^ dbl ((x ^^^ s ^^^ dbl (x ^^^ y)) ^^^ (y ^^^ s ^^^ dbl (y ^^^ z))) = x ^^^ dbl (dbl (x ^^^ z)) := by
  simp only [dbl_xor]
  generalize dbl (dbl x) = ddx
  generalize dbl (dbl y) = ddy
  generalize dbl (dbl z) = ddz
  generalize dbl x = dx
  generalize dbl y = dy
  generalize dbl z = dz
  generalize dbl s = ds
  simp only [UInt8.xor_comm, x_lc, x_can, UInt8.xor_self, UInt8.xor_zero]
theorem mx2 (f : Nat → UInt8) (c i : Nat) (hi : i < 4) : mx (mx f) (4 * c + i) = f (4 * c + i) ^^^ dbl (dbl (f (4 * c + i) ^^^ f (4 * c + (i + 2) % 4))) := by
  have e0 := mx_at f c 0 (by omega)
  have e1 := mx_at f c 1 (by omega)
  have e2 := mx_at f c 2 (by omega)
  have e3 := mx_at f c 3 (by omega)
  rw [mx_at (mx f) c i hi]
  simp only [Nat.add_zero, Nat.zero_add, show (0 + 1) % 4 = 1 from rfl, show (1 + 1) % 4 = 2 from rfl, show (2 + 1) % 4 = 3 from rfl, show (3 + 1) % 4 = 0 from rfl] at e0 e1 e2 e3
  rw [e0, e1, e2, e3, sumM]
  generalize f (4 * c) ^^^ f (4 * c + 1) ^^^ f (4 * c + 2) ^^^ f (4 * c + 3) = s at *
  match i, hi with
  | 0, _ =>
    show mx f (4 * c) ^^^ s ^^^ dbl (mx f (4 * c) ^^^ mx f (4 * c + 1)) = _
    rw [e0, e1]; exact keyM _ _ _ _
  | 1, _ =>
    show mx f (4 * c + 1) ^^^ s ^^^ dbl (mx f (4 * c + 1) ^^^ mx f (4 * c + 2)) = _
    rw [e1, e2]; exact keyM _ _ _ _
  | 2, _ =>
    show mx f (4 * c + 2) ^^^ s ^^^ dbl (mx f (4 * c + 2) ^^^ mx f (4 * c + 3)) = _
    rw [e2, e3]; exact keyM _ _ _ _
  | 3, _ =>
    show mx f (4 * c + 3) ^^^ s ^^^ dbl (mx f (4 * c + 3) ^^^ mx f (4 * c)) = _
    rw [e3, e0]; exact keyM _ _ _ _
theorem mx4 (f : Nat → UInt8) (j : Nat) : mx (mx (mx (mx f))) j = f j := by
  have h : j = 4 * (j / 4) + j % 4 := by omega
  rw [h]
  generalize j / 4 = c
  have hi : j % 4 < 4 := by omega
  generalize j % 4 = i at hi
  rw [mx2 (mx (mx f)) c i hi, mx2 f c i hi, mx2 f c ((i + 2) % 4) (by omega), show ((i + 2) % 4 + 2) % 4 = i by omega]
  generalize f (4 * c + i) = a
  generalize f (4 * c + (i + 2) % 4) = b
  simp only [dbl_xor]
  generalize dbl (dbl (dbl (dbl a))) = a4
  generalize dbl (dbl (dbl (dbl b))) = b4
  generalize dbl (dbl a) = a2
  generalize dbl (dbl b) = b2
  simp only [UInt8.xor_comm, x_lc, x_can, UInt8.xor_self, UInt8.xor_zero]
def Eq16 (f g : Nat → UInt8) : Prop := ∀ j, j < 16 → f j = g j
theorem mx_congr {f g : Nat → UInt8} (h : Eq16 f g) : Eq16 (mx f) (mx g) := by
  intro j hj
  unfold mx
  rw [h j hj, h _ (by omega), h (j / 4 * 4 + 1) (by omega), h (j / 4 * 4 + 2) (by omega), h (j / 4 * 4 + 3) (by omega), h (j / 4 * 4 + (j % 4 + 1) % 4) (by omega)]
theorem mx_inj {f g : Nat → UInt8} (h : Eq16 (mx f) (mx g)) : Eq16 f g := by
  intro j hj
  have := mx_congr (mx_congr (mx_congr h)) j hj
  rwa [mx4, mx4] at this
theorem ss_inj {f g : Nat → UInt8} (h : Eq16 (ssF f) (ssF g)) : Eq16 f g := by
  intro p hp
  have := h ((p + 12 * (p % 4)) % 16) (by omega)
  unfold ssF at this
  rw [show ((p + 12 * (p % 4)) % 16 + (p + 12 * (p % 4)) % 16 % 4 * 4) % 16 = p by omega] at this
  exact sbx_inj _ _ this
theorem x_right {a b c : UInt8} (h : a ^^^ c = b ^^^ c) : a = b := by
  have := congrArg (· ^^^ c) h
  simpa [UInt8.xor_assoc, UInt8.xor_self] using this
theorem st_inj (ks f g : Nat → UInt8) : ∀ i, Eq16 (stF ks f i) (stF ks g i) → Eq16 f g
  | 0, h => fun j hj => x_right (h j hj)
  | i + 1, h => st_inj ks f g i (ss_inj (mx_inj (fun j hj => x_right (h j hj))))
theorem enc_inj (ks f g : Nat → UInt8) (r : Nat) (h : Eq16 (encF ks f r) (encF ks g r)) : Eq16 f g :=
  st_inj ks f g (r - 1) (ss_inj (fun j hj => x_right (h j hj)))
theorem ss_congr {f g : Nat → UInt8} (h : Eq16 f g) : Eq16 (ssF f) (ssF g) := by
  intro j hj
  unfold ssF
  rw [h _ (by omega)]
theorem st_congr (ks : Nat → UInt8) {f g : Nat → UInt8} (h : Eq16 f g) : ∀ i, Eq16 (stF ks f i) (stF ks g i)
  | 0 => fun j hj => by simp only [stF]; rw [h j hj]
  | i + 1 => fun j hj => by simp only [stF]; rw [mx_congr (ss_congr (st_congr ks h i)) j hj]
theorem enc_congr (ks : Nat → UInt8) {f g : Nat → UInt8} (r : Nat) (h : Eq16 f g) : Eq16 (encF ks f r) (encF ks g r) := by
  intro j hj
  unfold encF
  rw [ss_congr (st_congr ks h (r - 1)) j hj]
theorem aes_str (key : Nat → UInt8) (n : Nat) (f g : Nat → UInt8) : str 16 (aesF key f n) = str 16 (aesF key g n) ↔ str 16 f = str 16 g := by
  constructor
  · intro h
    apply str_congr
    refine enc_inj (ksF key n) f g (n / 4 + 6) (fun j hj => ?_)
    have := congrArg (fun s => sf s j) h
    simpa [sf_str 16 _ j hj, aesF] using this
  · intro h
    apply str_congr
    refine enc_congr (ksF key n) (n / 4 + 6) (fun j hj => ?_)
    have := congrArg (fun s => sf s j) h
    simpa [sf_str 16 _ j hj] using this

def rcF (n : Nat) : Nat → UInt8
  | 0 => 1
  | t + 1 => if (n + 4 * t) % n = 0 then dbl (rcF n t) else rcF n t
theorem kx_rc (bx f : Nat → UInt8) (n : Nat) : ∀ t, (kxR bx f n t).2 = rcF n t
  | 0 => rfl
  | t + 1 => by simp only [kxR, rcF]; rw [kx_rc bx f n t]
def wG (W : List UInt8) (j : Nat) : UInt8 := W.getD j 0
theorem sched_lit (n : Nat) (f : Nat → UInt8) (W : List UInt8) (T : Nat) (hn : 4 ≤ n) (h0 : ∀ j, j < n → f j = wG W j)
    (chk : ∀ t, t < T → ∀ i, i < 4 → wG W (n + 4 * t + i) = wG W (4 * t + i) ^^^ sw sbG n (n + 4 * t) (rcF n t) (wG W) i) :
    ∀ t, t ≤ T → ∀ j, j < n + 4 * t → (kxR sbG f n t).1 j = wG W j
  | 0, _, j, hj => by
    simp only [kxR]
    rw [if_pos (by omega)]
    exact h0 j (by omega)
  | t + 1, ht, j, hj => by
    have ih := sched_lit n f W T hn h0 chk t (by omega)
    simp only [kxR]
    by_cases h : n + 4 * t ≤ j ∧ j < n + 4 * t + 4
    · rw [if_pos h]
      have c := chk t (by omega) (j - (n + 4 * t)) (by omega)
      rw [show n + 4 * t + (j - (n + 4 * t)) = j by omega, show 4 * t + (j - (n + 4 * t)) = j - n by omega] at c
      rw [c, ih (j - n) (by omega), kx_rc]
      congr 1
      unfold sw
      have hp : 4 ≤ n + 4 * t := by omega
      rw [ih (n + 4 * t - 4 + (j - (n + 4 * t) + 1) % 4) (by omega), ih (n + 4 * t - 4 + (j - (n + 4 * t))) (by omega)]
    · rw [if_neg h]
      exact ih j (by omega)
theorem st_lit (ks f : Nat → UInt8) (W : List UInt8) (T : List (List UInt8)) (r : Nat) (hk : ∀ j, j < 16 * r + 16 → ks j = wG W j)
    (h0 : ∀ j, j < 16 → f j ^^^ wG W (16 * 0 + j) = wG (T.getD 0 []) j)
    (chk : ∀ i, i + 1 < r → ∀ j, j < 16 → mx (ssF (wG (T.getD i []))) j ^^^ wG W (16 * (i + 1) + j) = wG (T.getD (i + 1) []) j) :
    ∀ i, i < r → Eq16 (stF ks f i) (wG (T.getD i []))
  | 0, _ => fun j hj => by
    simp only [stF]
    rw [hk _ (by omega)]
    exact h0 j hj
  | i + 1, hi => fun j hj => by
    have ih := st_lit ks f W T r hk h0 chk i (by omega)
    simp only [stF]
    rw [mx_congr (ss_congr ih) j hj, hk _ (by omega)]
    exact chk i hi j hj
set_option maxRecDepth 100000 in
theorem chk16 : ∀ t : Fin 40, ∀ i : Fin 4, wG W16 (16 + 4 * t.val + i.val) = wG W16 (4 * t.val + i.val) ^^^ sw sbG 16 (16 + 4 * t.val) (rcF 16 t.val) (wG W16) i.val := by decide +kernel
set_option maxRecDepth 100000 in
theorem chk32 : ∀ t : Fin 52, ∀ i : Fin 4, wG W32 (32 + 4 * t.val + i.val) = wG W32 (4 * t.val + i.val) ^^^ sw sbG 32 (32 + 4 * t.val) (rcF 32 t.val) (wG W32) i.val := by decide +kernel
def ssG (f : Nat → UInt8) (j : Nat) : UInt8 := sbG (f ((j + j % 4 * 4) % 16)).toNat
theorem ss_eq : ssF = ssG := by
  funext f j
  unfold ssF ssG
  rw [sbx_eq]
set_option maxRecDepth 100000 in
theorem rnd16 : ∀ i : Fin 9, ∀ j : Fin 16, mx (ssG (wG (T16.getD i.val []))) j.val ^^^ wG W16 (16 * (i.val + 1) + j.val) = wG (T16.getD (i.val + 1) []) j.val := by decide +kernel
set_option maxRecDepth 100000 in
theorem beg16 : ∀ j : Fin 16, UInt8.ofNat (17 * j.val) ^^^ wG W16 (16 * 0 + j.val) = wG (T16.getD 0 []) j.val := by decide +kernel
set_option maxRecDepth 100000 in
theorem end16 : ∀ j : Fin 16, ssG (wG (T16.getD 9 [])) j.val ^^^ wG W16 (16 * 10 + j.val) = wG O16 j.val := by decide +kernel
set_option maxRecDepth 100000 in
theorem key16 : ∀ j : Fin 16, UInt8.ofNat j.val = wG W16 j.val := by decide +kernel
theorem known16 : str 16 (aesF (fun j => UInt8.ofNat j) (fun j => UInt8.ofNat (17 * j)) 16) = ⟨O16.toArray⟩ := by
  have hk : ∀ j, j < 16 * 10 + 16 → ksF (fun j => UInt8.ofNat j) 16 j = wG W16 j := by
    intro j hj
    unfold ksF
    rw [sbx_eq]
    exact sched_lit 16 (fun j => UInt8.ofNat j) W16 40 (by omega) (fun j hj => key16 ⟨j, hj⟩) (fun t ht i hi => chk16 ⟨t, ht⟩ ⟨i, hi⟩) 40 (Nat.le_refl _) j (by omega)
  have hs := st_lit (ksF (fun j => UInt8.ofNat j) 16) (fun j => UInt8.ofNat (17 * j)) W16 T16 10 hk (fun j hj => beg16 ⟨j, hj⟩)
    (fun i hi j hj => by rw [ss_eq]; exact rnd16 ⟨i, by omega⟩ ⟨j, hj⟩) 9 (by omega)
  have e : ∀ j, j < 16 → aesF (fun j => UInt8.ofNat j) (fun j => UInt8.ofNat (17 * j)) 16 j = wG O16 j := by
    intro j hj
    show ssF (stF (ksF (fun j => UInt8.ofNat j) 16) (fun j => UInt8.ofNat (17 * j)) 9) j ^^^ ksF (fun j => UInt8.ofNat j) 16 (16 * 10 + j) = _
    rw [ss_congr hs j hj, hk _ (by omega), ss_eq]
    exact end16 ⟨j, hj⟩
  rw [str_congr e]
  decide +kernel
set_option maxRecDepth 100000 in
theorem rnd32 : ∀ i : Fin 13, ∀ j : Fin 16, mx (ssG (wG (T32.getD i.val []))) j.val ^^^ wG W32 (16 * (i.val + 1) + j.val) = wG (T32.getD (i.val + 1) []) j.val := by decide +kernel
set_option maxRecDepth 100000 in
theorem beg32 : ∀ j : Fin 16, UInt8.ofNat (17 * j.val) ^^^ wG W32 (16 * 0 + j.val) = wG (T32.getD 0 []) j.val := by decide +kernel
set_option maxRecDepth 100000 in
theorem end32 : ∀ j : Fin 16, ssG (wG (T32.getD 13 [])) j.val ^^^ wG W32 (16 * 14 + j.val) = wG O32 j.val := by decide +kernel
set_option maxRecDepth 100000 in
theorem key32 : ∀ j : Fin 32, UInt8.ofNat j.val = wG W32 j.val := by decide +kernel
theorem known32 : str 16 (aesF (fun j => UInt8.ofNat j) (fun j => UInt8.ofNat (17 * j)) 32) = ⟨O32.toArray⟩ := by
  have hk : ∀ j, j < 16 * 14 + 16 → ksF (fun j => UInt8.ofNat j) 32 j = wG W32 j := by
    intro j hj
    unfold ksF
    rw [sbx_eq]
    exact sched_lit 32 (fun j => UInt8.ofNat j) W32 52 (by omega) (fun j hj => key32 ⟨j, hj⟩) (fun t ht i hi => chk32 ⟨t, ht⟩ ⟨i, hi⟩) 52 (Nat.le_refl _) j (by omega)
  have hs := st_lit (ksF (fun j => UInt8.ofNat j) 32) (fun j => UInt8.ofNat (17 * j)) W32 T32 14 hk (fun j hj => beg32 ⟨j, hj⟩)
    (fun i hi j hj => by rw [ss_eq]; exact rnd32 ⟨i, by omega⟩ ⟨j, hj⟩) 13 (by omega)
  have e : ∀ j, j < 16 → aesF (fun j => UInt8.ofNat j) (fun j => UInt8.ofNat (17 * j)) 32 j = wG O32 j := by
    intro j hj
    show ssF (stF (ksF (fun j => UInt8.ofNat j) 32) (fun j => UInt8.ofNat (17 * j)) 13) j ^^^ ksF (fun j => UInt8.ofNat j) 32 (16 * 14 + j) = _
    rw [ss_congr hs j hj, hk _ (by omega), ss_eq]
    exact end32 ⟨j, hj⟩
  rw [str_congr e]
  decide +kernel
end Go.Proofs.YtgalgjmhdbncbaaGreat
