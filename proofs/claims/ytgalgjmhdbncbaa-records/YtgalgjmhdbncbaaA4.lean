import Derived.Test.YtgalgjmhdbncbaaA3
import Derived.Lib.BufferWrite
import Derived.Laws.IdiomStrings
namespace Go.Proofs.Ytgalgjmhdbncbaa
open Go.RowKit

/-- the bytes of a text, by place -/
def sf (s : ByteArray) (j : Nat) : UInt8 := s.data.getD j 0
/-- a text of n bytes, by a function -/
def str (n : Nat) (f : Nat → UInt8) : ByteArray := ⟨((List.range n).map f).toArray⟩
theorem str_size (n : Nat) (f : Nat → UInt8) : (str n f).size = n := by simp [str, ByteArray.size]
theorem sf_str (n : Nat) (f : Nat → UInt8) (j : Nat) (h : j < n) : sf (str n f) j = f j := by simp [sf, str, h]
theorem str_sf (s : ByteArray) (n : Nat) (h : s.size = n) : str n (sf s) = s := by
  cases s with
  | mk d =>
    have h' : d.size = n := h
    unfold str
    congr 1
    apply Array.ext
    · simp [h']
    · intro i h1 h2
      simp [sf, h2]
theorem str_congr {n : Nat} {f g : Nat → UInt8} (h : ∀ j, j < n → f j = g j) : str n f = str n g := by
  unfold str
  congr 2
  exact List.map_congr_left (fun j hj => h j (by simpa using hj))

theorem byteCells_get (s : ByteArray) (j : Nat) (h : j < s.size) : (Lib.byteCells s.data.toList)[j]? = some (by8 (sf s) j) := by
  have h' : j < s.data.size := h
  simp [Lib.byteCells, by8, sf, Array.getElem?_eq_getElem h']

/-- only block g has turned -/
structure Chg (g : Nat) (w w' : World) : Prop where
  os : w'.os = w.os
  tape : w'.tape = w.tape
  output : w'.output = w.output
  size : w'.heap.size = w.heap.size
  block : ∀ k, k ≠ g → w'.heap[k]? = w.heap[k]?
theorem Chg.setRow (w : World) (g : Nat) (cs : Array Value) : Chg g w (w.setRow g cs) := ⟨rfl, rfl, rfl, by simp, fun k hk => Go.setRow_other w g k cs hk⟩
theorem Row.chg {w w' : World} {g n k : Nat} {t : TypeId} {V : Nat → Value} (h : Row w k n t V) (hc : Chg g w w') (hk : k ≠ g) : Row w' k n t V := by
  unfold Row; rw [hc.block k hk]; exact h
theorem Below.chg {B g : Nat} {a w w' : World} (h : Below B a w) (hc : Chg g w w') (hg : B ≤ g) : Below B a w' :=
  h.trans ⟨hc.os, hc.tape, hc.output, by rw [hc.size]; exact Nat.le_refl _, fun k hk => hc.block k (by omega)⟩
theorem st40' {ops : Array Oper} {rest : List Oper} {o : Oper} {a : Act} {w : World} {Q : Exit → Act → World → Prop} (hgd : o.guard = none) (x y : Operand) (ho : o.op = .store 53 x y)
    (g : Nat) (f : Nat → UInt8) (hx : a.eval x = .pointer (some ⟨g, 0, none⟩)) (hy : a.eval y = .agg (arr 16 (by8 f))) (V : Nat → Value) (hg : Row w g 16 53 V)
    (h : ∀ w', Chg g w w' → Row w' g 16 53 (by8 f) → wpList Try.prog ops Q rest (a.put o.dst undef) w') : wpList Try.prog ops Q (o :: rest) a w :=
  st40 hgd x y ho g f hx hy V hg (h _ (Chg.setRow _ _ _) hg.setRow)

theorem cpStr {ops : Array Oper} {rest : List Oper} {o : Oper} {a : Act} {w : World} {Q : Exit → Act → World → Prop} (hgd : o.guard = none) (d s : Operand)
    (ho : o.op = .call { callee := .builtin .copy, args := #[d, s], argTypes := #[31, 9] }) (g n dLen dCap : Nat) (t : TypeId) (V : Nat → Value) (S : ByteArray)
    (hd : a.eval d = .slice (some ⟨g, 0, none⟩) dLen dCap) (hs : a.eval s = .string S) (hg : Row w g n t V) (hle : S.size ≤ dLen) (hn : S.size ≤ n)
    (h : ∀ w', Chg g w w' → Row w' g n t (fun j => if j < S.size then by8 (sf S) j else V j) → wpList Try.prog ops Q rest (a.put o.dst (goInt S.size)) w') : wpList Try.prog ops Q (o :: rest) a w := by
  refine wpList_plain hgd fun K hK => ?_
  have hrun := Lib.run_copy_row_string (P := Try.prog) w 31 9 o.type 5 g 0 dLen dCap S (arr n V) t Try.underlying31 (by kernel_rfl) hg hle (by simpa [arr_size] using hn)
  have he : ((arr n V).toList.take 0 ++ Lib.byteCells S.data.toList ++ (arr n V).toList.drop (0 + S.size)).toArray = arr n fun j => if j < S.size then by8 (sf S) j else V j := by
    have hl : (Lib.byteCells S.data.toList).length = S.size := by simp [Lib.byteCells]
    apply Array.ext_getElem?
    intro i
    simp only [List.take_zero, List.nil_append, Nat.zero_add, List.getElem?_toArray]
    rw [List.getElem?_append, hl]
    by_cases hi : i < S.size
    · rw [if_pos hi, byteCells_get S i hi, arr_get _ _ _ (by omega)]; simp [hi]
    · rw [if_neg hi, List.getElem?_drop, show S.size + (i - S.size) = i by omega]
      by_cases hin : i < n
      · rw [arr_get _ _ _ hin]; simp [arr, hin, hi]
      · simp [arr, hin]
  rw [he] at hrun
  unfold Oper.wp
  simp [execOp, ho, resolve, invoke, builtin, hd, hs, hrun, Result.andThen]
  exact hK _ _ (h _ (Chg.setRow _ _ _) hg.setRow)

theorem res40b {fn : Func} {p u : Tmp} (h : fn.results = #[.cell p 53, .tmp u]) (tmps : Array Value) (w : World) (g : Nat) (V : Nat → Value) (v : Value)
    (hp : tmps.getD p undef = .pointer (some ⟨g, 0, none⟩)) (hv : tmps.getD u undef = v) (hg : Row w g 16 53 V) : (results fn tmps).run Try.prog w = .ok (.tuple #[.agg (arr 16 V), v]) w := by
  have hp' : tmps[p]?.getD undef = .pointer (some ⟨g, 0, none⟩) := by simpa using hp
  have hv' : tmps[u]?.getD undef = v := by simpa using hv
  have hl := run_loadVar_row (P := Try.prog) w g 53 53 _ (0, 0) _ hg Try.underlying53 rfl (by rw [arr_size]; exact info40)
  simp [results, h, hp', hv', asAddr, hl]

theorem conv8 (w : World) (g n cap : Nat) (t : TypeId) (f : Nat → UInt8) (m : Nat) (h : Row w g m t (by8 f)) (hm : n ≤ m) :
    (convert 31 9 (.slice (some ⟨g, 0, none⟩) n cap)).run Try.prog w = .ok (.string (str n f)) w := by
  have := run_convert_bytes_back (P := Try.prog) w 31 9 5 ⟨g, 0, none⟩ cap ((List.range n).map f) Try.underlying31 Try.underlying5 Try.underlying9 (fun j hj => by
    have hj' : j < n := by simpa using hj
    have hadd : (⟨g, 0, none⟩ : Addr).add j = ⟨g, j, none⟩ := by unfold Addr.add; split <;> simp_all
    rw [hadd, h.cell j (by omega)]
    simp [by8])
  simpa [str] using this

set_option maxHeartbeats 400000 in
theorem of_no (s : ByteArray) (w : World) (h : s.size ≠ 16) :
    Calls Try.prog 36 #[.string s] w fun e w' =>
      e = .returned (.tuple #[.agg (arr 16 z8), .bool false]) ∧ Below w.heap.size w w' := by
  have hn : ((s.size : Int) != 16) = true := by rw [bne_iff_ne]; omega
  have r0 := (Row.new w 16 53 z8 w.heap.size rfl).alloc (.cells (arr 16 z8) 53)
  have r1 := Row.new (w.alloc (.cells (arr 16 z8) 53)) 16 53 z8 (w.heap.size + 1) (by simp)
  have b1 := (((Below.refl w.heap.size w).alloc (Nat.le_refl _) (.cells (arr 16 z8) 53)).alloc (by simp) (.cells (arr 16 z8) 53))
  have R0 : Hid _ := r0
  have R1 : Hid _ := r1
  have B1 : Hid _ := b1
  clear r0 r1 b1
  go_enter Try.func36, Try.ntmps36
  go_wp2_with (first
    | (refine ld40 rfl _ rfl _ rfl _ R1 ?_)
    | (refine st40' rfl _ _ rfl _ _ rfl rfl _ R0 ?_; intro w2 hc2 r4))
  refine bodyPost_ret (v := .tuple #[.agg (arr 16 z8), .bool false]) (res40b Try.results36 _ _ w.heap.size _ _ rfl rfl r4) rfl ⟨rfl, ?_⟩
  exact Below.chg B1 hc2 (by omega)

set_option maxHeartbeats 400000 in
theorem of_yes (s : ByteArray) (w : World) (h : s.size = 16) :
    Calls Try.prog 36 #[.string s] w fun e w' =>
      e = .returned (.tuple #[.agg (arr 16 (by8 (sf s))), .bool true]) ∧ Below w.heap.size w w' := by
  have hn : ((s.size : Int) != 16) = false := by rw [h]; rfl
  have h16 : s.size ≤ 16 := by omega
  have HS : Hid _ := h
  clear h
  have r0 := (Row.new w 16 53 z8 w.heap.size rfl).alloc (.cells (arr 16 z8) 53)
  have r1 := Row.new (w.alloc (.cells (arr 16 z8) 53)) 16 53 z8 (w.heap.size + 1) (by simp)
  have b1 := (((Below.refl w.heap.size w).alloc (Nat.le_refl _) (.cells (arr 16 z8) 53)).alloc (by simp) (.cells (arr 16 z8) 53))
  have R0 : Hid _ := r0
  have R1 : Hid _ := r1
  have B1 : Hid _ := b1
  clear r0 r1 b1
  go_enter Try.func36, Try.ntmps36
  go_wp2_with (first
    | (refine cpStr rfl _ _ rfl (w.heap.size + 1) 16 16 16 53 z8 s rfl rfl R1 h16 h16 ?_; intro w1 hc r2'; have r2 : Row w1 (w.heap.size + 1) 16 53 (by8 (sf s)) := r2'.congr (fun j hj => by rw [HS.out]; simp [hj]); have r3 : Row w1 w.heap.size 16 53 z8 := Row.chg R0 hc (by omega); clear r2')
    | (refine ld40 rfl _ rfl _ rfl _ r2 ?_)
    | (refine st40' rfl _ _ rfl _ _ rfl rfl _ r3 ?_; intro w2 hc2 r4))
  refine bodyPost_ret (v := .tuple #[.agg (arr 16 (by8 (sf s))), .bool true]) (res40b Try.results36 _ _ w.heap.size _ _ rfl rfl r4) rfl ⟨rfl, ?_⟩
  exact Below.chg (Below.chg B1 hc (by omega)) hc2 (by omega)

set_option maxHeartbeats 400000 in
theorem text_any (f : Nat → UInt8) (w : World) :
    Calls Try.prog 38 #[.agg (arr 16 (by8 f))] w fun e w' =>
      e = .returned (.string (str 16 f)) ∧ Below w.heap.size w w' := by
  have hcv := conv8 (w.alloc (.cells (arr 16 (by8 f)) 53)) w.heap.size 16 16 53 f 16 (Row.new _ _ _ _ _ rfl) (by omega)
  go_enter Try.func38, Try.ntmps38
  go_wp2
  go_ret
  exact ⟨rfl, (Below.refl _ _).alloc (Nat.le_refl _) _⟩
end Go.Proofs.Ytgalgjmhdbncbaa
