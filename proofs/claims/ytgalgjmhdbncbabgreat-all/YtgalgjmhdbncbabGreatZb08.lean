import Derived.Test.YtgalgjmhdbncbabGreatZb07
import Derived.Deep.DeepCutAuto
import Derived.Deep.CutBlock
import Derived.Deep.RegionLaw
namespace Go.Proofs.YtgalgjmhdbncbabGreat
open Go.RowKit
attribute [local go_sem ↓] Go.wp_at_zero Go.wp_at_succ
attribute [local go_sem ↓] ldw40 ldw50 ldw60 ldw63 ldw52 stw40 stw50 stw63 stw52 al40 al50 al60 al62 al63 al52 bd50 bd55
attribute [local go_sem] run_ldT40 run_ldT50 run_ldT60 run_ldT63 run_ldT52 ldN_row run_stT40 run_stT50 run_stT63 run_stT52 stN_row stN_z run_al40 run_al50 run_al60 run_al62 run_al63 run_al52 run_bd50 run_bd55
attribute [local go_sem] blk_new blk_at blk_old blk_drew blk_setCell blk_setRow alloc_setRow

set_option maxHeartbeats 400000 in
theorem sizes_any (k : Nat) (h1 : 1 ≤ k) (h2 : k ≤ 3) (w : World) :
    Calls Tryz.prog 106 #[.int .i64 k] w fun e w' => e = .returned (.tuple #[.int .i64 (8 + 2 * (k : Int)), .int .i64 (8 + 8 * (k : Int))]) ∧ w' = w := by
  match k, h1, h2 with
  | 1, _, _ =>
    go_enter Tryz.func106, Tryz.ntmps106
    go_wp2
    go_ret2
    exact ⟨rfl, rfl⟩
  | 2, _, _ =>
    go_enter Tryz.func106, Tryz.ntmps106
    go_wp2
    go_ret2
    exact ⟨rfl, rfl⟩
  | 3, _, _ =>
    go_enter Tryz.func106, Tryz.ntmps106
    go_wp2
    go_ret2
    exact ⟨rfl, rfl⟩

set_option maxHeartbeats 400000 in
theorem alg_any (s : ByteArray) (_hs : s.size ≤ maxLen) (w : World) :
    Calls Tryz.prog 100 #[.string s] w fun e w' => ((∃ k : Nat, 1 ≤ k ∧ k ≤ 3 ∧ s.size = 8 + 8 * k ∧ e = .returned (.int .i64 k)) ∨ (s.size ≠ 16 ∧ s.size ≠ 24 ∧ s.size ≠ 32 ∧ e = .returned (.int .i64 0))) ∧ w' = w := by
  unfold maxLen at _hs
  go_enter Tryz.func100, Tryz.ntmps100
  go_wp2
  go_loop [3] (fun i => ∃ k : Nat, 1 ≤ k ∧ k ≤ 4 ∧ i = .int .i64 k ∧ ∀ j, 1 ≤ j → j < k → s.size ≠ 8 + 8 * j) (fun i => 4 - (intOf i).toNat)
  case atStart => exact ⟨1, by omega, by omega, rfl, fun j h1 h2 => by omega⟩
  case round =>
    obtain ⟨k, hk1, hk2, rfl, hno⟩ := hrel
    have HN : Hid _ := hno
    clear hno
    by_cases hlt : k ≤ 3
    · by_cases he : s.size = 8 + 8 * k
      · have hb : ((8 + 8 * (k : Int)) == (s.size : Int)) = true := beq_iff_eq.2 (by omega)
        have HE : Hid _ := he
        clear he
        go_wp2_with (go_at_call 106; refine (sizes_any k hk1 hlt _).mono ?_; rintro e w1 ⟨rfl, rfl⟩)
        go_ret
        exact ⟨Or.inl ⟨k, hk1, hlt, HE, rfl⟩, rfl⟩
      · have hb : ((8 + 8 * (k : Int)) == (s.size : Int)) = false := beq_eq_false_iff_ne.2 (by omega)
        go_wp2_with (go_at_call 106; refine (sizes_any k hk1 hlt _).mono ?_; rintro e w1 ⟨rfl, rfl⟩)
        go_round
        case rel =>
          refine ⟨k + 1, by omega, by omega, by go_num, ?_⟩
          intro j h1 h2
          by_cases hjk : j = k
          · subst hjk; exact he
          · exact HN.out j h1 (by omega)
        case measure => simp [intOf]; omega
    · have h4 : k = 4 := by omega
      subst h4
      have n1 := HN.out 1 (by omega) (by omega)
      have n2 := HN.out 2 (by omega) (by omega)
      have n3 := HN.out 3 (by omega) (by omega)
      have M1 : Hid _ := n1
      have M2 : Hid _ := n2
      have M3 : Hid _ := n3
      clear n1 n2 n3
      go_wp2
      go_ret
      exact ⟨Or.inr ⟨M1.out, M2.out, M3.out, rfl⟩, rfl⟩

def sw (bx : Nat → UInt8) (n at' : Nat) (c : UInt8) (R : Nat → UInt8) (i : Nat) : UInt8 :=
  if at' % n = 0 then bx (R (at' - 4 + (i + 1) % 4)).toNat ^^^ (if i = 0 then c else 0)
  else if n = 32 ∧ at' % n = 16 then bx (R (at' - 4 + i)).toNat
  else R (at' - 4 + i)
def kxR (bx f : Nat → UInt8) (n : Nat) : Nat → (Nat → UInt8) × UInt8
  | 0 => (fun j => if j < n then f j else 0, 1)
  | t + 1 => (fun j => if n + 4 * t ≤ j ∧ j < n + 4 * t + 4 then (kxR bx f n t).1 (j - n) ^^^ sw bx n (n + 4 * t) (kxR bx f n t).2 (kxR bx f n t).1 (j - (n + 4 * t)) else (kxR bx f n t).1 j,
      if (n + 4 * t) % n = 0 then dbl (kxR bx f n t).2 else (kxR bx f n t).2)

structure S30 (w0 w : World) (N : Nat) (bx R : Nat → UInt8) : Prop where
  r0 : Row w N 256 172 (by8 bx)
  r1 : Row w (N + 1) 240 174 z8
  r2 : Row w (N + 1 + 1) 240 199 (by8 R)
  b : Below N w0 w

theorem sl62 (g A : Nat) (h1 : 4 ≤ A) (h2 : A ≤ 240) (w : World) : (Instr.sliceAt 199 (.pointer (some ⟨g, 0, none⟩)) (some (.int .i64 ((A : Int) - 4))) (some (.int .i64 (A : Int))) none).run Tryz.prog w = .ok (.slice (some ⟨g, A - 4, none⟩) 4 (244 - A)) w := by
  have hs : (sizeOf 5).run Tryz.prog w = .ok 1 w := by kernel_rfl
  have h := run_sliceAt_array_lh (P := Tryz.prog) w 199 ⟨g, 0, none⟩ (by kernel_rfl) .i64 .i64 ((A : Int) - 4) (A : Int) (by omega) (by omega) (by rw [show Tryz.prog.arrayLen 199 = 240 from by kernel_rfl]; omega)
  rw [show Tryz.prog.arrayLen 199 = 240 from by kernel_rfl, show Tryz.prog.elem 199 = 5 from by kernel_rfl, hs] at h
  rw [h]
  simp only [Result.andThen_ok, slicedAt]
  rw [if_neg (by omega), show ((A : Int) - 4).toNat = A - 4 by omega, Int.toNat_natCast, show A - (A - 4) = 4 by omega, show 240 - (A - 4) = 244 - A by omega]
  have : (⟨g, 0, none⟩ : Addr).add ((A - 4) * 1) = ⟨g, A - 4, none⟩ := by unfold Addr.add; split <;> simp_all
  rw [this]
theorem arr63 (a : Addr) (c : Nat) (w : World) : (Instr.arrayAt 200 (.slice (some a) 4 c)).run Tryz.prog w = .ok (.pointer (some a)) w := by kernel_rfl
theorem ld_word (R : Nat → UInt8) (o : Nat) (h : o + 4 ≤ 240) (w : World) (r : Result Value) : ldN (some (.cells (arr 240 (by8 R)) 199 (0, 0))) o 4 w r = .ok (.agg (arr 4 (by8 fun j => R (o + j)))) w := ldN_mid 240 (by8 R) 199 o 4 w r h
def q4 (a b c d : UInt8) (j : Nat) : UInt8 := if j = 0 then a else if j = 1 then b else if j = 2 then c else d
theorem quad (a b c d : UInt8) : (#[.int .u8 a.toNat, .int .u8 b.toNat, .int .u8 c.toNat, .int .u8 d.toNat] : Array Value) = arr 4 (by8 (q4 a b c d)) := rfl
theorem st63' {ops : Array Oper} {rest : List Oper} {o : Oper} {a : Act} {w : World} {Q : Exit → Act → World → Prop} (hgd : o.guard = none) (x y : Operand) (ho : o.op = .store 200 x y)
    (g : Nat) (f : Nat → UInt8) (hx : a.eval x = .pointer (some ⟨g, 0, none⟩)) (hy : a.eval y = .agg (arr 4 (by8 f))) (V : Nat → Value) (hg : Row w g 4 200 V)
    (h : ∀ w', Chg g w w' → Row w' g 4 200 (by8 f) → wpList Tryz.prog ops Q rest (a.put o.dst undef) w') : wpList Tryz.prog ops Q (o :: rest) a w :=
  wpList_store_row hgd 200 x y ho g _ hx hy 200 _ hg (by rw [arr_size]; kernel_rfl) (by simp [arr_size]) (one8 4 f) (h _ (Chg.setRow _ _ _) hg.setRow)
theorem S30.chg {w0 w w1 : World} {N m : Nat} {bx R : Nat → UInt8} (h : S30 w0 w N bx R) (hc : Chg m w w1) (hm : N + 1 + 1 < m) : S30 w0 w1 N bx R :=
  ⟨h.r0.chg hc (by omega), h.r1.chg hc (by omega), h.r2.chg hc (by omega), Below.chg h.b hc (by omega)⟩
theorem sw_zero (bx : Nat → UInt8) (n A : Nat) (c : UInt8) (R : Nat → UInt8) (j : Nat) (hj : j < 4) (h : A % n = 0) :
    (if j = 0 then Value.int .u8 ((bx (R (A - 4 + 1)).toNat ^^^ c).toNat : Int) else by8 (fun j => bx (q4 (R (A - 4 + 1)) (R (A - 4 + 2)) (R (A - 4 + 3)) (R (A - 4)) j).toNat) j) = by8 (sw bx n A c R) j := by
  unfold sw by8
  simp only [if_pos h]
  match j, hj with
  | 0, _ => rfl
  | 1, _ => simp [q4]
  | 2, _ => simp [q4]
  | 3, _ => simp [q4]
theorem S30.setOther {w0 w : World} {N m o : Nat} {v : Value} {bx R : Nat → UInt8} (h : S30 w0 w N bx R) (hm : N + 1 + 1 < m) : S30 w0 (w.setCell ⟨m, o, none⟩ v) N bx R :=
  ⟨h.r0.other (by omega), h.r1.other (by omega), h.r2.other (by omega), h.b.setCell (by simp; omega) _⟩
theorem sl62l (g i : Nat) (h : i < 15) (w : World) : (Instr.sliceAt 199 (.pointer (some ⟨g, 0, none⟩)) (some (.int .i64 ((i : Int) * 16))) none none).run Tryz.prog w = .ok (.slice (some ⟨g, i * 16, none⟩) (240 - i * 16) (240 - i * 16)) w := by
  have hs : (sizeOf 5).run Tryz.prog w = .ok 1 w := by kernel_rfl
  have h := run_sliceAt_array_l (P := Tryz.prog) w 199 ⟨g, 0, none⟩ (by kernel_rfl) .i64 ((i : Int) * 16) (by omega) (by rw [show Tryz.prog.arrayLen 199 = 240 from by kernel_rfl]; omega)
  rw [show Tryz.prog.arrayLen 199 = 240 from by kernel_rfl, show Tryz.prog.elem 199 = 5 from by kernel_rfl, hs] at h
  rw [h]
  simp only [Result.andThen_ok, slicedAt]
  rw [if_neg (by omega), show ((i : Int) * 16).toNat = i * 16 by omega]
  have : (⟨g, 0, none⟩ : Addr).add (i * 16 * 1) = ⟨g, i * 16, none⟩ := by unfold Addr.add; split <;> simp_all
  rw [this]
theorem step_cpK {ops : Array Oper} {o : Oper} {a : Act} {w : World} {K : Act → World → Prop} {Q : Exit → Act → World → Prop} {E : Prop} (hgd : o.guard = none) (d s : Operand)
    (ho : o.op = .call { callee := .builtin .copy, args := #[d, s], argTypes := #[134, 134] }) (g g' i : Nat) (hi : i < 15) (hd : a.eval d = .slice (some ⟨g, i * 16, none⟩) 16 16)
    (hs : a.eval s = .slice (some ⟨g', i * 16, none⟩) (240 - i * 16) (240 - i * 16)) (V : Nat → Value) (R : Nat → UInt8) (hg : Row w g 240 174 V) (hg' : Row w g' 240 199 (by8 R))
    (hK : ∀ w', Chg g w w' → Row w' g 240 174 (fun j => if i * 16 ≤ j ∧ j < i * 16 + 16 then by8 R j else V j) → K (a.put o.dst (goInt 16)) w') :
    if Region.wanted o (yielded ops a.tmps) = true then Oper.wp Tryz.prog o a w K Q else E := by
  have hw : Region.wanted o (yielded ops a.tmps) = true := by simp [Region.wanted, hgd]
  rw [if_pos hw]
  have hl : (cl 16 fun j => by8 R (i * 16 + j)).length = 16 := cl_length _ _
  have hrun := run_copy_row (P := Tryz.prog) w 134 134 o.type 5 g (i * 16) 16 16 ⟨g', i * 16, none⟩ (240 - i * 16) (240 - i * 16) (arr 240 V) 174 (cl 16 fun j => by8 R (i * 16 + j)) Tryz.underlying134 (by kernel_rfl) hg
    (by rw [hl]; show 16 = min (240 - i * 16) 16; omega)
    (fun j v hv => by
      have hj : j < 16 := by
        have := (List.getElem?_eq_some_iff.1 hv).1
        rwa [hl] at this
      have hadd : (⟨g', i * 16, none⟩ : Addr).add j = ⟨g', i * 16 + j, none⟩ := by unfold Addr.add; split <;> simp_all
      have e : (cl 16 fun j => by8 R (i * 16 + j))[j]? = some (by8 R (i * 16 + j)) := by simp [cl, hj]
      rw [e] at hv
      rw [hadd, hg'.cell _ (by omega)]; exact hv)
    (by rw [hl, arr_size]; omega) (cl_one 16 fun j => R (i * 16 + j))
  have he : ((arr 240 V).toList.take (i * 16) ++ (cl 16 fun j => by8 R (i * 16 + j)) ++ (arr 240 V).toList.drop (i * 16 + (cl 16 fun j => by8 R (i * 16 + j)).length)).toArray = arr 240 (fun j => if i * 16 ≤ j ∧ j < i * 16 + 16 then by8 R j else V j) := by
    rw [hl]
    apply Array.ext_getElem?
    intro x
    rw [List.getElem?_toArray, List.append_assoc, List.getElem?_append]
    have h1 : (List.take (i * 16) (arr 240 V).toList).length = i * 16 := by simp [arr_size]; omega
    rw [h1]
    by_cases hx : x < i * 16
    · rw [if_pos hx, List.getElem?_take_of_lt hx, Array.getElem?_toList, arr_get _ _ _ (by omega), arr_get _ _ _ (by omega), if_neg (by omega)]
    · rw [if_neg hx, List.getElem?_append, hl]
      by_cases hx2 : x - i * 16 < 16
      · rw [if_pos hx2, arr_get _ _ _ (by omega), if_pos (by omega)]
        have e : (cl 16 fun j => by8 R (i * 16 + j))[x - i * 16]? = some (by8 R (i * 16 + (x - i * 16))) := by simp [cl, hx2]
        rw [e, show i * 16 + (x - i * 16) = x by omega]
      · rw [if_neg hx2, List.getElem?_drop, Array.getElem?_toList, show i * 16 + 16 + (x - i * 16 - 16) = x by omega]
        by_cases hx3 : x < 240
        · rw [arr_get _ _ _ hx3, arr_get _ _ _ hx3, if_neg (by omega)]
        · simp [arr, hx3]
  rw [he, hl] at hrun
  unfold Oper.wp
  simp [execOp, ho, resolve, invoke, builtin, hd, hs, hrun, Result.andThen]
  exact hK _ (Chg.setRow _ _ _) hg.setRow
structure S32 (w0 w : World) (N m : Nat) (R V : Nat → UInt8) : Prop where
  r1 : Row w (N + 1) 240 174 z8
  r2 : Row w (N + 1 + 1) 240 199 (by8 R)
  r3 : Row w m 240 174 (by8 V)
  b : Below N w0 w
structure S31 (w0 w : World) (N m : Nat) (bx R L : Nat → UInt8) : Prop where
  s : S30 w0 w N bx R
  r : Row w m 4 200 (by8 L)
theorem S30.keep {w0 w w1 : World} {N : Nat} {bx R : Nat → UInt8} (h : S30 w0 w N bx R) (hb : Below w.heap.size w w1) : S30 w0 w1 N bx R :=
  ⟨h.r0.keep hb h.r0.lt, h.r1.keep hb h.r1.lt, h.r2.keep hb h.r2.lt, h.b.trans (hb.mono (Nat.le_of_lt h.r0.lt))⟩
theorem S30.alloc {w0 w : World} {N : Nat} {bx R : Nat → UInt8} (h : S30 w0 w N bx R) (o : Obj) : S30 w0 (w.alloc o) N bx R :=
  ⟨h.r0.alloc o, h.r1.alloc o, h.r2.alloc o, h.b.alloc (Nat.le_of_lt h.r0.lt) o⟩
theorem S31.keep {w0 w w1 : World} {N m : Nat} {bx R L : Nat → UInt8} (h : S31 w0 w N m bx R L) (hb : Below w.heap.size w w1) : S31 w0 w1 N m bx R L := ⟨h.s.keep hb, h.r.keep hb h.r.lt⟩
theorem S30.tab {w0 w : World} {N : Nat} {bx R : Nat → UInt8} (h : S30 w0 w N bx R) : Tab w N 0 bx := ⟨h.r0.lt, fun i hi => by rw [Nat.zero_add]; exact h.r0.cell i hi⟩

set_option maxRecDepth 100000 in
set_option maxHeartbeats 4000000 in
theorem schedule_any (s : ByteArray) (r : Nat) (hs : s.size = 16 ∨ s.size = 24 ∨ s.size = 32) (hr : 4 * r = s.size + 24) (bx : Nat → UInt8) (w : World) :
    Calls Tryz.prog 108 #[.string s, .int .i64 r, .agg (arr 256 (by8 bx))] w fun e w' =>
      e = .returned (.agg (arr 240 (by8 (kxR bx (sf s) s.size ((16 * (r + 1) - s.size) / 4)).1))) ∧ Below w.heap.size w w' := by
  have hle : s.size ≤ 32 := by omega
  have hge : 16 ≤ s.size := by omega
  have hr14 : r ≤ 14 := by omega
  have hr10 : 10 ≤ r := by omega
  have R0 : Hid _ := ((Row.new w 256 172 (by8 bx) w.heap.size rfl).alloc (.cells (arr 240 z8) 174)).alloc (.cells (arr 240 z8) 199)
  have R1 : Hid _ := ((Row.new (w.alloc (.cells (arr 256 (by8 bx)) 172)) 240 174 z8 (w.heap.size + 1) (by simp))).alloc (.cells (arr 240 z8) 199)
  have R2 : Hid _ := Row.new ((w.alloc (.cells (arr 256 (by8 bx)) 172)).alloc (.cells (arr 240 z8) 174)) 240 199 z8 (w.heap.size + 1 + 1) (by simp)
  have B0 : Hid _ := (((Below.refl w.heap.size w).alloc (Nat.le_refl _) (.cells (arr 256 (by8 bx)) 172)).alloc (by simp) (.cells (arr 240 z8) 174)).alloc (by simp; omega) (.cells (arr 240 z8) 199)
  have HS : Hid _ := hs
  have HR : Hid _ := hr
  clear hs hr
  go_enter Tryz.func108, Tryz.ntmps108
  go_wp2_with (refine cpStr rfl _ _ rfl (w.heap.size + 1 + 1) 240 240 240 199 z8 s rfl rfl R2 (by omega) (by omega) ?_; intro w1 hc r2)
  have hS1 : S30 w w1 w.heap.size bx (kxR bx (sf s) s.size 0).1 := by
    refine ⟨Row.chg R0 hc (by omega), Row.chg R1 hc (by omega), r2.congr ?_, Below.chg B0 hc (by omega)⟩
    intro j hj
    simp only [kxR, by8, z8]
    split <;> rfl
  clear hc r2 R0 R1 R2 B0
  go_loopw [9, 10] (fun c a wr => ∃ t A : Nat, Hid (A = s.size + 4 * t) ∧ s.size ≤ A ∧ A ≤ 16 * (r + 1) ∧ c = .int .u8 (kxR bx (sf s) s.size t).2.toNat ∧ a = .int .i64 A ∧ S30 w wr w.heap.size bx (kxR bx (sf s) s.size t).1) (fun _ a _ => 300 - (intOf a).toNat)
  case atStart => exact ⟨0, s.size, rfl, Nat.le_refl _, by omega, rfl, rfl, hS1⟩
  case round =>
    clear hS1
    obtain ⟨t, A, HA, hA1, hA2, rfl, rfl, hS⟩ := hrel
    by_cases hlt : A < 16 * (r + 1)
    · have hA4 : A + 4 ≤ 16 * (r + 1) := by
        have e1 := HA.out
        have e2 := HR.out
        rcases HS.out with e3 | e3 | e3 <;> omega
      have hA240 : (A : Int) + 4 ≤ 240 := by omega
      have hsl := sl62 (w.heap.size + 1 + 1) A (by omega) (by omega)
      have hdd : decide ((A : Int) < ((r : Int) + 1) * 16) = true := by simp; omega
      have q2 := heap_pos hS.r2
      have har := arr63
      have hm := ld_word (kxR bx (sf s) s.size t).1 (A - 4) (by omega)
      generalize hR : (kxR bx (sf s) s.size t).1 = R at *
      generalize hC : (kxR bx (sf s) s.size t).2 = C at *
      have HRR : Hid _ := hR
      have HCC : Hid _ := hC
      clear hR hC
      go_upto_block 2 with fail
      suffices H : ∀ W, S31 w W w.heap.size wr.heap.size bx R (fun j => R (A - 4 + j)) → Code.wp Tryz.prog _ _ _ W from H _ ⟨hS.alloc _, Row.new _ _ _ _ _ rfl⟩
      intro W hS2
      have hmN : w.heap.size + 1 + 1 < wr.heap.size := hS.r2.lt
      clear hS q2 hm hsl
      go_cut [9] (fun c wx => c = .int .u8 (if A % s.size = 0 then dbl C else C).toNat ∧ S31 w wx w.heap.size wr.heap.size bx R (sw bx s.size A C R))
      case first =>
        have c0 : W.cell? ⟨wr.heap.size, 0, none⟩ = some (.int .u8 (R (A - 4)).toNat) := hS2.r.cell 0 (by omega)
        have c1 : W.cell? ⟨wr.heap.size, 1, none⟩ = some (.int .u8 (R (A - 4 + 1)).toNat) := hS2.r.cell 1 (by omega)
        have c2 : W.cell? ⟨wr.heap.size, 2, none⟩ = some (.int .u8 (R (A - 4 + 2)).toNat) := hS2.r.cell 2 (by omega)
        have c3 : W.cell? ⟨wr.heap.size, 3, none⟩ = some (.int .u8 (R (A - 4 + 3)).toNat) := hS2.r.cell 3 (by omega)
        by_cases h0 : A % s.size = 0
        · have hb : (((A : Int) % (s.size : Int)) == 0) = true := beq_iff_eq.2 (by omega)
          have hq := quad
          have H0 : Hid _ := h0
          clear h0
          go_wp2_with (first
            | (go_at_call 129; refine (subWord_any _ 0 bx _ _ hS2.s.tab).mono ?_; rintro e w2 ⟨rfl, hb2⟩; have hS3 := hS2.keep hb2; clear c0 c1 c2 c3)
            | (refine st63' rfl _ _ rfl _ _ rfl rfl _ hS3.r ?_; intro w3 hc3 r3; have c0 : w3.cell? ⟨wr.heap.size, 0, none⟩ = some (.int .u8 (bx (R (A - 4 + 1)).toNat).toNat) := r3.cell 0 (by omega); have f0 := r3.frozen 0)
            | (go_at_call 127; refine (dbl_any _ _).mono ?_; rintro e w4 ⟨rfl, hw4⟩))
          go_meet
          refine ⟨by rw [if_pos H0.out], ⟨(hS3.s.chg hc3 hmN).setOther hmN, (r3.set 0 _).congr ?_⟩⟩
          intro j hj
          rw [u8_xor_b]
          exact sw_zero bx s.size A C R j hj H0.out
        · have hb : (((A : Int) % (s.size : Int)) == 0) = false := beq_eq_false_iff_ne.2 (by omega)
          have H0 : Hid _ := h0
          clear h0
          by_cases h32 : s.size = 32
          · by_cases h16 : A % s.size = 16
            · have hb1 : ((s.size : Int) == 32) = true := beq_iff_eq.2 (by omega)
              have hb2 : (((A : Int) % (s.size : Int)) == 16) = true := beq_iff_eq.2 (by omega)
              have H32 : Hid _ := h32
              have H16 : Hid _ := h16
              clear h32 h16 c0 c1 c2 c3
              have q3 := heap_pos hS2.r
              go_wp2_with (first
                | (go_at_call 129; refine (subWord_any _ 0 bx _ _ hS2.s.tab).mono ?_; rintro e w2 ⟨rfl, hb2⟩; have hS3 := hS2.keep hb2)
                | (refine st63' rfl _ _ rfl _ _ rfl rfl _ hS3.r ?_; intro w3 hc3 r3))
              go_meet
              refine ⟨by rw [if_neg H0.out], ⟨hS3.s.chg hc3 hmN, r3.congr ?_⟩⟩
              intro j hj
              simp only [by8, sw]
              rw [if_neg H0.out, if_pos ⟨H32.out, H16.out⟩]
            · have hb1 : ((s.size : Int) == 32) = true := beq_iff_eq.2 (by omega)
              have hb2 : (((A : Int) % (s.size : Int)) == 16) = false := beq_eq_false_iff_ne.2 (by omega)
              have H16 : Hid _ := h16
              clear h32 h16 c0 c1 c2 c3
              go_wp2
              go_meet
              refine ⟨by rw [if_neg H0.out], ⟨hS2.s, hS2.r.congr ?_⟩⟩
              intro j hj
              simp only [by8, sw]
              rw [if_neg H0.out, if_neg (fun e => H16.out e.2)]
          · have hb1 : ((s.size : Int) == 32) = false := beq_eq_false_iff_ne.2 (by omega)
            have H32 : Hid _ := h32
            clear h32 c0 c1 c2 c3
            go_wp2
            go_meet
            refine ⟨by rw [if_neg H0.out], ⟨hS2.s, hS2.r.congr ?_⟩⟩
            intro j hj
            simp only [by8, sw]
            rw [if_neg H0.out, if_neg (fun e => H32.out e.1)]
      case rest =>
        clear hS2
        obtain ⟨rfl, hS⟩ := hcut
        generalize hC' : (if A % s.size = 0 then dbl C else C) = C' at *
        have HC' : Hid _ := hC'
        clear hC'
        have hS0 : S31 w wc w.heap.size wr.heap.size bx (fun j => if A ≤ j ∧ j < A + 0 then R (j - s.size) ^^^ sw bx s.size A C R (j - A) else R j) (sw bx s.size A C R) := by
          refine ⟨⟨hS.s.r0, hS.s.r1, hS.s.r2.congr ?_, hS.s.b⟩, hS.r⟩
          intro j hj
          simp only [by8]
          rw [if_neg (by omega)]
        go_wp2_with fail
        go_loopw [65] (fun i wx => ∃ q : Nat, q ≤ 4 ∧ i = .int .i64 q ∧ S31 w wx w.heap.size wr.heap.size bx (fun j => if A ≤ j ∧ j < A + q then R (j - s.size) ^^^ sw bx s.size A C R (j - A) else R j) (sw bx s.size A C R)) (fun i _ => 4 - (intOf i).toNat)
        case atStart => exact ⟨0, by omega, rfl, hS0⟩
        case round => 
          clear hS hS0
          obtain ⟨q, hq, rfl, hS⟩ := hrel
          by_cases hql : q < 4
          · have c1 := hS.s.r2.cell (A - s.size + q) (by omega)
            have c2 := hS.r.cell q (by omega)
            have c3 := hS.s.r2.cell (A + q) (by omega)
            have f3 := hS.s.r2.frozen (A + q)
            simp only [by8] at c1 c2 c3
            rw [if_neg (by omega)] at c1 c3
            have e1 : ((A : Int) - (s.size : Int) + (q : Int)).toNat = A - s.size + q := by omega
            go_wp2
            go_region
            go_wp2
            rw [u8_xor_b]
            refine ⟨⟨q + 1, by omega, by go_num, ⟨⟨(hS.s.r0.other (by omega)).drew, (hS.s.r1.other (by omega)).drew, ((hS.s.r2.set (A + q) _).congr ?_).drew, (hS.s.b.setCell (by simp; omega) _).drew⟩, (hS.r.other (by omega)).drew⟩⟩, by simp [intOf]; omega⟩
            intro j hj
            by_cases hjk : j = A + q
            · subst hjk
              simp only [by8, if_true]
              rw [if_pos (by omega), show A + q - s.size = A - s.size + q by omega, show A + q - A = q by omega]
            · simp only [by8, hjk, if_false]
              by_cases h3 : A ≤ j ∧ j < A + q
              · rw [if_pos h3, if_pos (by omega)]
              · rw [if_neg h3, if_neg (by omega)]
          · have hq4 : q = 4 := by omega
            subst hq4
            go_wp2
            refine ⟨⟨t + 1, A + 4, by have := HA.out; show A + 4 = _; omega, by omega, hA4, ?_, by go_num, ?_⟩, by simp [intOf]; omega⟩
            · have := HA.out
              simp only [kxR]
              rw [HCC.out, ← this, HC'.out]
            · have := HA.out
              simp only [kxR]
              rw [HCC.out, HRR.out, ← this]
              exact hS.s
    · have hAe : A = 16 * (r + 1) := by omega
      have r1 := hS.r1
      have r2 := hS.r2
      have hk : (kxR bx (sf s) s.size t).1 = (kxR bx (sf s) s.size ((16 * (r + 1) - s.size) / 4)).1 := by
        have := HA.out
        rw [show (16 * (r + 1) - s.size) / 4 = t by omega]
      have hdd : decide ((A : Int) < ((r : Int) + 1) * 16) = false := by simp; omega
      generalize hR : (kxR bx (sf s) s.size t).1 = R at *
      have HK : Hid _ := hk
      clear hR hk hAe
      clear r1 r2
      have hmN : w.heap.size + 1 + 1 < wr.heap.size := hS.r2.lt
      go_wp2_with fail
      go_loopw [84] (fun i wx => ∃ q : Nat, q ≤ 15 ∧ i = .int .i64 q ∧ S32 w wx w.heap.size wr.heap.size R (fun j => if j < 16 * q then R j else 0)) (fun i _ => 15 - (intOf i).toNat)
      case atStart =>
        refine ⟨0, by omega, rfl, ⟨hS.r1.alloc _, hS.r2.alloc _, ?_, hS.b.alloc hS.b.size _⟩⟩
        refine Row.congr (V := z8) (Row.new _ _ _ _ _ rfl) ?_
        intro j hj
        simp [z8, by8]
      case round =>
        clear hS
        obtain ⟨q, hq, rfl, hS⟩ := hrel
        by_cases hql : q < 15
        · have hsl := sl62l (w.heap.size + 1 + 1) q hql
          have hwq : IntKind.i64.wrap ((q : Int) * 16) = (q : Int) * 16 := by rw [IntKind.wrap_i64]; omega
          go_wp2_with fail
          go_region_law (refine step_cpK (by rfl) (.tmp 89) (.tmp 92) (by rfl) _ _ q hql (by rfl) (by rfl) _ R hS.r3.drew hS.r2.drew ?_; intro w5 hc5 r5)
          go_wp2
          go_roundw
          case rel =>
            refine ⟨q + 1, by omega, by go_num, ⟨hS.r1.drew.chg hc5 (by omega), hS.r2.drew.chg hc5 (by omega), r5.congr ?_, Below.chg hS.b.drew hc5 (by omega)⟩⟩
            intro j hj
            by_cases h3 : q * 16 ≤ j ∧ j < q * 16 + 16
            · rw [if_pos h3]
              simp only [by8]
              rw [if_pos (by omega)]
            · rw [if_neg h3]
              simp only [by8]
              by_cases h4 : j < 16 * q
              · rw [if_pos h4, if_pos (by omega)]
              · rw [if_neg h4, if_neg (by omega)]
          case measure => simp [intOf]; omega
        · have hq15 : q = 15 := by omega
          subst hq15
          have q1 := heap_pos hS.r1
          have r3 : Row wr _ 240 174 (by8 R) := hS.r3.congr (fun j hj => by simp only [by8]; rw [if_pos (by omega)])
          have q3 := heap_pos r3
          go_wp2
          refine bodyPost_ret (res52 Tryz.results108 _ _ (w.heap.size + 1) _ rfl _ hS.r1.setRow) rfl ⟨by rw [HK.out], ?_⟩
          exact Below.setRow hS.b (by omega) _
end Go.Proofs.YtgalgjmhdbncbabGreat
