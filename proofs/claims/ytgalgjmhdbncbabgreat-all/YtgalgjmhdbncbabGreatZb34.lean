import Derived.Test.YtgalgjmhdbncbabGreatZb18
import Derived.Test.YtgalgjmhdbncbabGreatZb22
import Derived.Test.YtgalgjmhdbncbabGreatZb28
import Derived.Lib.AppendStr
import Derived.Deep.RegionHeld
import Derived.Test.YtgalgjmhdbncbabGreatZb00
namespace Go.Proofs.YtgalgjmhdbncbabGreat
open Go.RowKit
open Go.Lib (strCells run_append_room_string run_append_grow_string)
attribute [local go_sem ↓] Go.wp_at_zero Go.wp_at_succ

theorem strCells_get (s : ByteArray) (j : Nat) (hj : j < s.size) : (strCells s)[j]? = some (.int .u8 ((sf s j).toNat : Int)) := by
  have hj' : j < s.data.size := hj
  simp [strCells, sf, Array.getElem?_eq_getElem hj']
theorem infoP5 : ∃ i, Tryz.prog.info? 5 = some i ∧ i.zero = some (.int .u8 0) ∧ i.size = 1 ∧ i.bytes = 1 := by
  have h := info5
  rw [Option.map_eq_some_iff] at h
  obtain ⟨i, hi, e⟩ := h
  simp only [Prod.mk.injEq] at e
  exact ⟨i, hi, e.1, e.2.1, e.2.2⟩
def catF (f : Nat → UInt8) (m : ByteArray) (j : Nat) : UInt8 := if j < 20 then f j else sf m (j - 20)
theorem cat_str (f : Nat → UInt8) (m : ByteArray) : str (20 + m.size) (catF f m) = str 20 f ++ m := by
  apply bytes_ext
  · rw [str_size, ByteArray.size_append, str_size]
  · intro j hj
    rw [str_size] at hj
    rw [sf_str _ _ _ hj, sf_append, str_size]
    unfold catF
    by_cases h : j < 20
    · rw [if_pos h, if_pos h, sf_str _ _ _ h]
    · rw [if_neg h, if_neg h]
theorem app_any (w : World) (g n : Nat) (f : Nat → UInt8) (m : ByteArray) (hn : 20 ≤ n) (hm : m.size ≤ 1000) (h : Row w g n 5 (by8 f)) (B : Nat) (hB : B ≤ g) :
    ∃ v w1, (Builtin.append_ #[134, 9] 134 #[.slice (some ⟨g, 0, none⟩) 20 20, .string m]).run Tryz.prog w = .ok v w1 ∧ (convert 134 9 v).run Tryz.prog w1 = .ok (.string (str 20 f ++ m)) w1 ∧ Below B w w1 := by
  obtain ⟨i0, hi, hz0, hz1, hz2⟩ := infoP5
  have hlt := h.lt
  by_cases h0 : m.size = 0
  · have e : m = ⟨#[]⟩ := (empty_iff m).1 h0
    subst e
    have hr := run_append_room_string (P := Tryz.prog) w 134 9 134 5 i0 Tryz.underlying134 Tryz.underlying9 hi hz1 g 20 20 (arr n (by8 f)) h ⟨#[]⟩ (by decide) (by rw [arr_size]; exact hn)
    have es : ((arr n (by8 f)).toList.take 20 ++ strCells ⟨#[]⟩ ++ (arr n (by8 f)).toList.drop (20 + (⟨#[]⟩ : ByteArray).size)).toArray = arr n (by8 f) := by
      have : strCells ⟨#[]⟩ = [] := rfl
      rw [this, List.append_nil]
      show ((arr n (by8 f)).toList.take 20 ++ (arr n (by8 f)).toList.drop 20).toArray = _
      rw [List.take_append_drop, Array.toArray_toList]
    rw [es] at hr
    refine ⟨_, _, hr, ?_, Below.setRow (Below.refl _ _) hB _⟩
    have hc := conv8 (w.setRow g (arr n (by8 f))) g 20 20 5 f n h.setRow hn
    refine hc.trans ?_
    congr 2
  · have hlo : ((List.range 20).map (by8 f)).length = 20 * i0.size := by rw [hz1]; simp
    have hr := run_append_grow_string (P := Tryz.prog) w 134 9 134 5 i0 (.int .u8 0) Tryz.underlying134 Tryz.underlying9 hi hz0 ⟨g, 0, none⟩ 20 20 ((List.range 20).map (by8 f)) hlo
      (fun j v hj => by
        have hj20 : j < 20 := by
          rcases Nat.lt_or_ge j 20 with h | h
          · exact h
          · rw [List.getElem?_eq_none (by simpa using h)] at hj; cases hj
        have hadd : (⟨g, 0, none⟩ : Addr).add j = ⟨g, j, none⟩ := by unfold Addr.add; split <;> simp_all
        rw [hadd, h.cell j (by omega)]
        simpa [hj20] using hj) m (by omega) (by omega) (by
        rw [hz2]
        have := nextslicecap_le (need := 20 + m.size) (old := 20) (by omega)
        omega)
    have hge := grownCap_ge w (20 + m.size) 20 5
    refine ⟨_, _, hr, ?_, ((Below.refl B w).drew.alloc (by show B ≤ w.heap.size; omega) _)⟩
    have hBy : By (w.drew.alloc (.cells (((List.range 20).map (by8 f)).toArray ++ (strCells m).toArray ++ Builtin.zeroCells (Value.int .u8 0).cells (grownCap w (20 + m.size) 20 5 - (20 + m.size))) 5)) w.heap.size (20 + m.size) (catF f m) := by
      have hh : (w.drew.alloc (.cells (((List.range 20).map (by8 f)).toArray ++ (strCells m).toArray ++ Builtin.zeroCells (Value.int .u8 0).cells (grownCap w (20 + m.size) 20 5 - (20 + m.size))) 5)).heap[w.heap.size]? = some (.cells (((List.range 20).map (by8 f)).toArray ++ (strCells m).toArray ++ Builtin.zeroCells (Value.int .u8 0).cells (grownCap w (20 + m.size) 20 5 - (20 + m.size))) 5 (0, 0)) := heap_of_new w.drew _ _ rfl
      refine ⟨by simp, fun j hj => ⟨?_, frozen_of_row _ _ j _ _ hh⟩⟩
      rw [cell_of_row _ _ j _ _ _ hh, Array.append_assoc, Array.getElem?_append]
      unfold catF
      by_cases h20 : j < 20
      · rw [if_pos (by simpa using h20), if_pos h20]
        simp [h20, by8]
      · rw [if_neg (by simpa using h20), if_neg h20, Array.getElem?_append]
        have hsz : (strCells m).length = m.size := Go.Lib.strCells_length m
        rw [if_pos (by simp [hsz]; omega)]
        have := strCells_get m (j - 20) (by omega)
        simpa using this
    have := conv_by _ w.heap.size (20 + m.size) (grownCap w (20 + m.size) 20 5) (catF f m) hBy
    rw [cat_str] at this
    exact this
theorem appAt {ops : Array Oper} {rest : List Oper} {o : Oper} {a : Act} {w w1 : World} {Q : Exit → Act → World → Prop} (hgd : o.guard = none) (d s : Operand)
    (ho : o.op = .call { callee := .builtin .append, args := #[d, s], argTypes := #[134, 9] }) (hty : o.type = 134) (x y v : Value) (hd : a.eval d = x) (hs : a.eval s = y)
    (hrun : (Builtin.append_ #[134, 9] 134 #[x, y]).run Tryz.prog w = .ok v w1) (h : wpList Tryz.prog ops Q rest (a.put o.dst v) w1) : wpList Tryz.prog ops Q (o :: rest) a w := by
  refine wpList_plain hgd fun K hK => ?_
  unfold Oper.wp execOp
  simp only [ho, hty, resolve, invoke, builtin, Sem.run_bind, Sem.run_pure, Result.andThen_ok, List.map_toArray, List.map_cons, List.map_nil, hd, hs, hrun]
  exact hK _ _ h
theorem field7 (v0 v1 v2 v3 v4 v5 v6 : Value) (a : Option Addr) (l c : Nat) (w : World) : Sem.run Tryz.prog (Instr.field 189 (.agg #[v0, v1, v2, v3, v4, v5, v6, .slice a l c]) 7) w = .ok (.slice a l c) w := by kernel_rfl
def headT (A I : Nat) (n b : ByteArray) : ByteArray := str 20 (e5F A I n b)
theorem head_eq (A I : Nat) (n b t : ByteArray) : str 20 (e7F A I n b t) = headT A I n b := by
  unfold headT
  apply str_congr
  intro j hj
  unfold e7F cpF
  rw [if_neg (by omega)]
  unfold e6F cpF bo
  by_cases h0 : b.size = 0
  · rw [if_pos h0, if_neg (by omega)]
  · rw [if_neg h0, if_neg (by omega)]
set_option maxRecDepth 100000 in
set_option maxHeartbeats 4000000 in
theorem bound_any (A I : Nat) (n b t m : ByteArray) (hA1 : 1 ≤ A) (hA3 : A ≤ 3) (hI : I ≤ 65535) (hn : n.size = 12) (hb : b.size ≤ 200) (ht : t.size ≤ 16) (hm : m.size ≤ 1000) (w : World) :
    Calls Tryz.prog 104 #[recV A I n b t, .string m] w fun e w' => e = .returned (.string (headT A I n b ++ m)) ∧ Below w.heap.size w w' := by
  have hr := fun w => runOf_any A I n b t hA1 hA3 hI hn hb ht w
  have hct := fun g w => cut_any g b.size (36 + b.size) (by omega) (Nat.le_refl _) w
  have hap := fun w g h B hB => app_any w g (36 + b.size) (e7F A I n b t) m (by omega) hm h B hB
  rw [head_eq] at hap
  unfold recV at hr ⊢
  unfold partsV at hct
  have HU : Hid _ := hr
  have HC : Hid _ := hct
  have HA : Hid _ := hap
  have HN : Hid _ := hn
  have k0 := (Below.refl w.heap.size w).alloc (Nat.le_refl _) (.cells #[.int .i64 A, .int .i64 I, .string n, .string b, .string t] 35)
  clear hr hct hap hn
  go_enter Tryz.func104, Tryz.ntmps104
  go_wp2_with fail
  refine (HU.out _).mono ?_
  rintro e w1 ⟨g, rfl, hg, R1, b1⟩
  simp at hg
  have B1 : Below w.heap.size w w1 := k0.trans (b1.mono (by simp))
  clear b1 k0
  go_wp2_with fail
  refine (HC.out g _).mono ?_
  rintro e w2 ⟨rfl, b2⟩
  have R2 := R1.keep b2 R1.lt
  have B2 := B1.trans (b2.mono B1.size)
  obtain ⟨v, w3, hrun, hcv, b3⟩ := HA.out w2 g R2 w.heap.size (by omega)
  have B3 := B2.trans b3
  clear b2 b3 HA HU HC R1 R2 B1 B2
  have hfl := fun v0 v1 v2 v3 v4 v5 v6 a l c w => field7 v0 v1 v2 v3 v4 v5 v6 a l c w
  have HX : Hid _ := hrun
  clear hrun
  go_wp2_with (refine appAt rfl _ _ rfl rfl _ _ v rfl rfl HX.out ?_)
  go_ret
  exact ⟨rfl, B3⟩
end Go.Proofs.YtgalgjmhdbncbabGreat
namespace Go.Proofs.YtgalgjmhdbncbabGreat
open Go.RowKit
attribute [local go_sem ↓] Go.wp_at_zero Go.wp_at_succ

theorem HdAt.block {w w' : World} {g o : Nat} {h : Hd} (ha : HdAt w g o h) (hb : w'.heap[g]? = w.heap[g]?) : HdAt w' g o h := by
  have hc : ∀ j, w'.cell? ⟨g, j, none⟩ = w.cell? ⟨g, j, none⟩ := fun j => World.cell?_of_block (w := w) hb
  obtain ⟨c0, c1, c2, c3, c4, c5, c6, c7, c8, c9⟩ := ha
  exact ⟨by rw [hc]; exact c0, by rw [hc]; exact c1, by rw [hc]; exact c2, by rw [hc]; exact c3, by rw [hc]; exact c4, by rw [hc]; exact c5, by rw [hc]; exact c6, by rw [hc]; exact c7, by rw [hc]; exact c8, by rw [hc]; exact c9⟩
theorem HdAt.drew {w : World} {g o : Nat} {h : Hd} (ha : HdAt w g o h) : HdAt w.drew g o h := ha.block rfl
theorem HdAt.below {w w' : World} {g o B : Nat} {h : Hd} (ha : HdAt w g o h) (hb : Below B w w') (hg : g < B) : HdAt w' g o h := ha.block (hb.block g hg)
theorem al186 : Instr.alloc 194 true (.tuple #[]) = Al 194 := rfl
theorem run_al186 (w : World) : Sem.run Tryz.prog (Al 194) w = .ok (.pointer (some ⟨w.heap.size, 0, none⟩)) (w.alloc (.cells (arr 8 z8) 194)) := by kernel_rfl
attribute [local go_sem ↓] al186
attribute [local go_sem] run_al186
def hnonT (h : Hd) : ByteArray := h.c.fix ++ numT h.ctr 8
theorem put8 (v : Nat) : str 8 (putF (fun _ => 0) 0 8 v) = numT v 8 := by
  unfold numT
  apply str_congr
  intro j hj
  unfold putF
  rw [if_pos (by omega), Nat.sub_zero]
set_option maxRecDepth 100000 in
set_option maxHeartbeats 4000000 in
theorem nonce_any (g o : Nat) (h : Hd) (hct : h.ctr ≤ 1000000) (hfx : h.c.fix.size = 4) (w : World) (hg : g < w.heap.size) (ha : HdAt w g o h) :
    Calls Tryz.prog 102 #[.pointer (some ⟨g, o, none⟩)] w fun e w' => e = .returned (.string (hnonT h)) ∧ Below w.heap.size w w' := by
  have k0 := (Below.refl w.heap.size w).alloc (Nat.le_refl _) (.cells (arr 8 z8) 194)
  have hwu : IntKind.u64.wrap ((h.ctr : Nat) : Int) = ((h.ctr : Nat) : Int) := wrapU h.ctr (by omega)
  go_enter Tryz.func102, Tryz.ntmps102
  go_wp2_with fail
  suffices HH : ∀ W, HdAt W g o h → Row W w.heap.size 8 194 z8 → Below w.heap.size w W → Code.wp Tryz.prog _ _ _ W from HH _ (ha.below k0 hg) (Row.new _ _ _ _ _ rfl) k0
  clear k0 ha
  intro W hA hR hB
  have HR : Hid _ := hR
  have HB : Hid _ := hB
  have hgn : g ≠ w.heap.size := by omega
  clear hR hB
  refine wp_region_held_drew (S := fun W' => HdAt W' g o h) (by kernel_rfl) hA.drew (fun hHeld => ?_)
  refine tp 0 _ ?r1
  refine nz ?_
  refine tp 1 _ ?r2
  refine nz ?_
  refine tp 2 _ ?r3
  refine nz ?_
  refine tp 3 _ ?r4
  refine nz ?_
  refine tk 4 ?v5 ?y5 ?r5
  case y5 => (intro W' hW; have hc9 := hW.c9; go_simp; try with_reducible rfl)
  refine nz ?_
  refine tp 5 _ ?r6
  refine nz ?_
  refine wpAnyH_ready (rs := [6]) (by kernel_rfl) (by simp) ?_
  refine AllReadyH.cons rfl (fun K hK => ?_) ?nil6
  case nil6 => exact AllReadyH.nil
  go_simp
  refine (put_any w.heap.size 0 8 8 8 194 (fun _ => 0) h.ctr (by omega) (by omega) (by omega) _ (Row.drew HR.out)).mono ?_
  rintro e wb ⟨rfl, hc, hr⟩
  have hAb : HdAt wb g o h := HdAt.block (HdAt.drew hA) (hc.block g hgn)
  go_wp2_with fail
  refine hK.out _ _ hAb (fun hHeld => ?_)
  clear hK K
  refine wpAnyH_done (by kernel_rfl) ?_ _
  have hB2 : Below w.heap.size w wb := Below.chg (Below.drew HB.out) hc (Nat.le_refl _)
  have c3 := hAb.c3
  have hcv := conv8 wb.drew w.heap.size 8 8 194 _ 8 hr.drew (Nat.le_refl _)
  have hz8 := str_size 8 (putF (fun _ => 0) 0 8 h.ctr)
  have H8 : Hid _ := put8 h.ctr
  clear hHeld hA HR HB hc hr
  go_wp2_with fail
  go_region
  go_wp2
  go_ret
  refine ⟨?_, hB2.drew⟩
  unfold hnonT
  rw [← H8.out]
  rfl
end Go.Proofs.YtgalgjmhdbncbabGreat
