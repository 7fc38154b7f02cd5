import Derived.Test.YtgalgjmhdbncbaaGreatZf00
import Derived.Lib.BufferWrite
import Derived.Laws.IdiomStrings
namespace Go.Proofs.YtgalgjmhdbncbaaGreat
open Go.RowKit

def pk (f : Nat → UInt8) : Nat → BitVec 64
  | 0 => 0
  | k + 1 => (pk f k <<< 8) ||| (f k).toBitVec.setWidth 64

theorem up8_bv (a : BitVec 64) : IntKind.u64.wrap ((a.toNat : Int) * 256) = ((a <<< 8).toNat : Int) := by
  rw [IntKind.wrap_u64, BitVec.toNat_shiftLeft, Nat.shiftLeft_eq]; rfl
theorem byte_bv (b : UInt8) : ((b.toNat : Nat) : Int) = ((b.toBitVec.setWidth 64).toNat : Int) := by
  simp
theorem wrap_byte (b : UInt8) : IntKind.u64.wrap (b.toNat : Int) = ((b.toNat : Nat) : Int) := by
  have := b.toNat_lt
  rw [IntKind.wrap_u64]; omega
theorem pk_step (x : BitVec 64) (b : UInt8) : bits .or .u64 (IntKind.u64.wrap ((x.toNat : Int) * 256)) (IntKind.u64.wrap (b.toNat : Int)) = (((x <<< 8) ||| b.toBitVec.setWidth 64).toNat : Int) := by
  rw [wrap_byte, up8_bv, byte_bv b, u64_or_bv]
def pair (a b : BitVec 64) : Array Value := #[.int .u64 a.toNat, .int .u64 b.toNat]

set_option maxHeartbeats 400000 in
theorem polyOf_any (f : Nat → UInt8) (w : World) :
    Calls Tryz.prog 154 #[.agg (arr 16 (by8 f))] w fun e w' =>
      e = .returned (.agg #[.int .u64 (pk f 8).toNat, .int .u64 (pk (fun j => f (8 + j)) 8).toNat]) ∧ Below w.heap.size w w' := by
  go_enter Tryz.func154, Tryz.ntmps154
  go_wp2
  go_loopw [5] (fun i wr => ∃ k : Nat, k ≤ 8 ∧ i = .int .i64 k ∧ Row wr w.heap.size 16 145 (by8 f) ∧
     wr.heap[w.heap.size + 1 + 1]? = some (.cells #[.int .u64 (pk f k).toNat, .int .u64 (pk (fun j => f (8 + j)) k).toNat] 224 (0, 0)) ∧
     wr.heap[w.heap.size + 1]? = some (.cells #[.int .u64 0, .int .u64 0] 224 (0, 0)) ∧ Below w.heap.size w wr) (fun i _ => 8 - (intOf i).toNat)
  case atStart =>
    refine ⟨0, by omega, rfl, ?_, heap_of_new _ _ _ (by simp), heap_of_old _ _ _ _ (by simp) (heap_of_new _ _ _ (by simp)), ?_⟩
    · exact ((Row.new _ _ _ _ _ rfl).alloc _).alloc _
    · exact ((((Below.refl _ _).alloc (Nat.le_refl _) _).alloc (by simp) _).alloc (by simp; omega) _)
  case round =>
    obtain ⟨k, hk, rfl, r0, r1, r2, hB⟩ := hrel
    by_cases hlt : k < 8
    · have c0 : wr.cell? ⟨w.heap.size, k, none⟩ = some (.int .u8 (f k).toNat) := r0.cell k (by omega)
      have c1 : wr.cell? ⟨w.heap.size, 8 + k, none⟩ = some (.int .u8 (f (8 + k)).toNat) := r0.cell (8 + k) (by omega)
      have c2 : wr.cell? ⟨w.heap.size + 1 + 1, 0, none⟩ = some (.int .u64 (pk f k).toNat) := by rw [cell_of_row _ _ 0 _ _ _ r1]; rfl
      have c3 : wr.cell? ⟨w.heap.size + 1 + 1, 1, none⟩ = some (.int .u64 (pk (fun j => f (8 + j)) k).toNat) := by rw [cell_of_row _ _ 1 _ _ _ r1]; rfl
      have f0 : ∀ j, wr.frozen? ⟨w.heap.size + 1 + 1, j, none⟩ = false := fun j => frozen_of_row _ _ j _ _ r1
      go_wp2
      go_region
      go_wp2
      go_region
      go_wp2
      go_roundw
      case rel =>
        rw [pk_step, pk_step]
        refine ⟨k + 1, by omega, by go_num, (((r0.other (by omega)).other (by omega)).drew).drew, heap_two _ _ _ _ _ _ _ r1, ?_, (((hB.setCell (by simp; omega) _).setCell (by simp; omega) _).drew).drew⟩
        rw [heap_drew, heap_drew, heap_skip _ _ _ _ _ (by omega), heap_skip _ _ _ _ _ (by omega)]; exact r2
      case measure => simp [intOf]; omega
    · have hk8 : k = 8 := by omega
      subst hk8
      have c2 : wr.cell? ⟨w.heap.size + 1 + 1, 0, none⟩ = some (.int .u64 (pk f 8).toNat) := by rw [cell_of_row _ _ 0 _ _ _ r1]; rfl
      have c3 : wr.cell? ⟨w.heap.size + 1 + 1, 1, none⟩ = some (.int .u64 (pk (fun j => f (8 + j)) 8).toNat) := by rw [cell_of_row _ _ 1 _ _ _ r1]; rfl
      have c4 : wr.cell? ⟨w.heap.size + 1, 0, none⟩ = some (.int .u64 0) := by rw [cell_of_row _ _ 0 _ _ _ r2]; rfl
      have c5 : wr.cell? ⟨w.heap.size + 1, 1, none⟩ = some (.int .u64 0) := by rw [cell_of_row _ _ 1 _ _ _ r2]; rfl
      have f0 : ∀ j, wr.frozen? ⟨w.heap.size + 1, j, none⟩ = false := fun j => frozen_of_row _ _ j _ _ r2
      generalize hx : pk f 8 = x at *
      generalize hy : pk (fun j => f (8 + j)) 8 = y at *
      have HX : Hid _ := hx
      have HY : Hid _ := hy
      clear hx hy
      go_wp2
      refine bodyPost_ret (v := .agg #[.int .u64 x.toNat, .int .u64 y.toNat]) (results_cell_row Tryz.results154 _ _ (w.heap.size + 1) 224 _ (0, 0) _ rfl (heap_two _ _ _ _ _ _ _ r2) Tryz.underlying224 rfl (by kernel_rfl)) rfl ⟨by rw [HX.out, HY.out], ?_⟩
      exact (hB.setCell (by simp) _).setCell (by simp) _

def upk (a b : BitVec 64) (j : Nat) : UInt8 := if j < 8 then ⟨(a >>> (8 * (7 - j))).setWidth 8⟩ else ⟨(b >>> (8 * (15 - j))).setWidth 8⟩
theorem shr8 (a : BitVec 64) (k : Nat) : ((a >>> (8 * k)).toNat : Int) / (256 : Int) = ((a >>> (8 * (k + 1))).toNat : Int) := by
  rw [show 8 * (k + 1) = 8 * k + 8 by omega, BitVec.shiftRight_add, BitVec.toNat_ushiftRight (a >>> (8 * k)), Nat.shiftRight_eq_div_pow]; rfl
theorem low8 (a : BitVec 64) : ((a.toNat : Int) % (256 : Int)) = (((⟨a.setWidth 8⟩ : UInt8).toNat : Nat) : Int) := by
  show _ = (((a.setWidth 8).toNat : Nat) : Int)
  rw [BitVec.toNat_setWidth]; rfl

set_option maxHeartbeats 400000 in
theorem pblock_any (a b : BitVec 64) (w : World) :
    Calls Tryz.prog 156 #[.agg #[.int .u64 a.toNat, .int .u64 b.toNat]] w fun e w' =>
      e = .returned (.agg (arr 16 (by8 (upk a b)))) ∧ Below w.heap.size w w' := by
  go_enter Tryz.func156, Tryz.ntmps156
  go_wp2
  go_loopw [4] (fun i wr => ∃ k : Nat, k ≤ 8 ∧ i = .int .i64 (7 - (k : Int)) ∧ Row wr (w.heap.size + 1 + 1) 16 145 (by8 fun j => if (8 - k ≤ j ∧ j < 8) ∨ 16 - k ≤ j then upk a b j else 0) ∧ Row wr (w.heap.size + 1) 16 145 z8 ∧
     wr.heap[w.heap.size]? = some (.cells #[.int .u64 (a >>> (8 * k)).toNat, .int .u64 (b >>> (8 * k)).toNat] 224 (0, 0)) ∧ Below w.heap.size w wr) (fun i _ => (intOf i + 1).toNat)
  case atStart =>
    refine ⟨0, by omega, rfl, ?_, ?_, ?_, ?_⟩
    · refine Row.congr (V := z8) ?_ ?_
      · exact Row.lit _ _ _ z8 _ _ (by simp) rfl
      intro j hj
      simp only [z8, by8]
      rw [if_neg (by omega)]
    · have h := Row.new (w.alloc (Obj.cells #[.int .u64 a.toNat, .int .u64 b.toNat] 224)) 16 145 z8 (w.heap.size + 1) (by simp)
      exact h.alloc _
    · exact heap_of_old _ _ _ _ (by simp; omega) (heap_of_old _ _ _ _ (by simp) (heap_of_new _ _ _ rfl))
    · exact ((((Below.refl _ _).alloc (Nat.le_refl _) _).alloc (by simp) _).alloc (by simp; omega) _)
  case round =>
    obtain ⟨k, hk, rfl, r0, r1, r2, hB⟩ := hrel
    by_cases hlt : k < 8
    · have c0 := r0.cell (7 - k) (by omega)
      have c1 := r0.cell (8 + (7 - k)) (by omega)
      have c2 : wr.cell? ⟨w.heap.size, 0, none⟩ = some (.int .u64 (a >>> (8 * k)).toNat) := by rw [cell_of_row _ _ 0 _ _ _ r2]; rfl
      have c3 : wr.cell? ⟨w.heap.size, 1, none⟩ = some (.int .u64 (b >>> (8 * k)).toNat) := by rw [cell_of_row _ _ 1 _ _ _ r2]; rfl
      have f0 : ∀ j, wr.frozen? ⟨w.heap.size, j, none⟩ = false := fun j => frozen_of_row _ _ j _ _ r2
      have f1 : ∀ j, wr.frozen? ⟨w.heap.size + 1 + 1, j, none⟩ = false := fun j => r0.frozen j
      have ea := shr8 a k
      have eb := shr8 b k
      have HA : Hid _ := ea
      have HB : Hid _ := eb
      have la : Hid _ := low8 (a >>> (8 * k))
      have lb : Hid _ := low8 (b >>> (8 * k))
      have ua : Hid (upk a b (7 - k) = ⟨(a >>> (8 * k)).setWidth 8⟩) := by
        unfold upk Hid; rw [if_pos (by omega), show 7 - (7 - k) = k by omega]
      have ub : Hid (upk a b (8 + (7 - k)) = ⟨(b >>> (8 * k)).setWidth 8⟩) := by
        unfold upk Hid; rw [if_neg (by omega), show 15 - (8 + (7 - k)) = k by omega]
      clear ea eb
      generalize hA : a >>> (8 * k) = A at *
      generalize hBb : b >>> (8 * k) = Bb at *
      clear hA hBb
      go_wp2
      go_region
      go_wp2
      go_roundw
      case rel =>
        rw [HA.out, HB.out, la.out, lb.out]
        refine ⟨k + 1, by omega, by go_num, (((((r0.set (7 - k) _).set (8 + (7 - k)) _).congr ?_).other (by omega)).other (by omega)).drew, ?_, ?_, ?_⟩
        · intro j hj
          by_cases h1 : j = 8 + (7 - k)
          · subst h1
            simp only [by8, if_true]
            rw [if_pos (by omega), ub.out]
          · by_cases h2 : j = 7 - k
            · subst h2
              simp only [by8, if_true]
              rw [if_neg (by omega), if_pos (by omega), ua.out]
            · simp only [by8, h1, h2, if_false]
              by_cases h3 : (8 - k ≤ j ∧ j < 8) ∨ 16 - k ≤ j
              · rw [if_pos h3, if_pos (by omega)]
              · rw [if_neg h3, if_neg (by omega)]
        · exact ((((r1.other (by omega)).other (by omega)).other (by omega)).other (by omega)).drew
        · rw [heap_drew]
          refine heap_two _ _ (.int .u64 A.toNat) (.int .u64 Bb.toNat) _ _ _ ?_
          rw [heap_skip _ _ _ _ _ (by omega), heap_skip _ _ _ _ _ (by omega)]; exact r2
        · exact ((((hB.setCell (by simp; omega) _).setCell (by simp; omega) _).setCell (by simp) _).setCell (by simp) _).drew
      case measure => simp [intOf]; omega
    · have hk8 : k = 8 := by omega
      subst hk8
      have r0 : Row wr (w.heap.size + 1 + 1) 16 145 (by8 (upk a b)) := r0.congr (fun j hj => by simp only [by8]; rw [if_pos (by omega)])
      go_wp2_with (first | (refine ld40 rfl _ rfl _ rfl _ r0 ?_) | (refine st40 rfl _ _ rfl _ _ rfl rfl _ r1 ?_))
      refine bodyPost_ret (res40 Tryz.results156 _ _ (w.heap.size + 1) _ rfl r1.setRow) rfl ⟨rfl, ?_⟩
      exact Below.setRow hB (by omega) _
end Go.Proofs.YtgalgjmhdbncbaaGreat
namespace Go.Proofs.YtgalgjmhdbncbaaGreat
open Go.RowKit

def sf (s : ByteArray) (j : Nat) : UInt8 := s.data.getD j 0
def str (n : Nat) (f : Nat → UInt8) : ByteArray := ⟨((List.range n).map f).toArray⟩
theorem str_size (n : Nat) (f : Nat → UInt8) : (str n f).size = n := by simp [str, ByteArray.size]
theorem sf_str (n : Nat) (f : Nat → UInt8) (j : Nat) (h : j < n) : sf (str n f) j = f j := by simp [sf, str, h]
theorem str_sf (s : ByteArray) (n : Nat) (h : s.size = n) : str n (sf s) = s := by
  cases s with
  | mk d =>
    have h' : d.size = n := h
    unfold str
    congr 1
    apply Array.ext
    · simp [h']
    · intro i h1 h2
      simp [sf, h2]
theorem str_congr {n : Nat} {f g : Nat → UInt8} (h : ∀ j, j < n → f j = g j) : str n f = str n g := by
  unfold str
  congr 2
  exact List.map_congr_left (fun j hj => h j (by simpa using hj))

theorem byteCells_get (s : ByteArray) (j : Nat) (h : j < s.size) : (Lib.byteCells s.data.toList)[j]? = some (by8 (sf s) j) := by
  have h' : j < s.data.size := h
  simp [Lib.byteCells, by8, sf, Array.getElem?_eq_getElem h']

structure Chg (g : Nat) (w w' : World) : Prop where
  os : w'.os = w.os
  tape : w'.tape = w.tape
  output : w'.output = w.output
  size : w'.heap.size = w.heap.size
  block : ∀ k, k ≠ g → w'.heap[k]? = w.heap[k]?
theorem Chg.setRow (w : World) (g : Nat) (cs : Array Value) : Chg g w (w.setRow g cs) := ⟨rfl, rfl, rfl, by simp, fun k hk => Go.setRow_other w g k cs hk⟩
theorem Row.chg {w w' : World} {g n k : Nat} {t : TypeId} {V : Nat → Value} (h : Row w k n t V) (hc : Chg g w w') (hk : k ≠ g) : Row w' k n t V := by
  unfold Row; rw [hc.block k hk]; exact h
theorem Below.chg {B g : Nat} {a w w' : World} (h : Below B a w) (hc : Chg g w w') (hg : B ≤ g) : Below B a w' :=
  h.trans ⟨hc.os, hc.tape, hc.output, by rw [hc.size]; exact Nat.le_refl _, fun k hk => hc.block k (by omega)⟩
theorem st40' {ops : Array Oper} {rest : List Oper} {o : Oper} {a : Act} {w : World} {Q : Exit → Act → World → Prop} (hgd : o.guard = none) (x y : Operand) (ho : o.op = .store 145 x y)
    (g : Nat) (f : Nat → UInt8) (hx : a.eval x = .pointer (some ⟨g, 0, none⟩)) (hy : a.eval y = .agg (arr 16 (by8 f))) (V : Nat → Value) (hg : Row w g 16 145 V)
    (h : ∀ w', Chg g w w' → Row w' g 16 145 (by8 f) → wpList Tryz.prog ops Q rest (a.put o.dst undef) w') : wpList Tryz.prog ops Q (o :: rest) a w :=
  st40 hgd x y ho g f hx hy V hg (h _ (Chg.setRow _ _ _) hg.setRow)

theorem cpStr {ops : Array Oper} {rest : List Oper} {o : Oper} {a : Act} {w : World} {Q : Exit → Act → World → Prop} (hgd : o.guard = none) (d s : Operand)
    (ho : o.op = .call { callee := .builtin .copy, args := #[d, s], argTypes := #[105, 9] }) (g n dLen dCap : Nat) (t : TypeId) (V : Nat → Value) (S : ByteArray)
    (hd : a.eval d = .slice (some ⟨g, 0, none⟩) dLen dCap) (hs : a.eval s = .string S) (hg : Row w g n t V) (hle : S.size ≤ dLen) (hn : S.size ≤ n)
    (h : ∀ w', Chg g w w' → Row w' g n t (fun j => if j < S.size then by8 (sf S) j else V j) → wpList Tryz.prog ops Q rest (a.put o.dst (goInt S.size)) w') : wpList Tryz.prog ops Q (o :: rest) a w := by
  refine wpList_plain hgd fun K hK => ?_
  have hrun := Lib.run_copy_row_string (P := Tryz.prog) w 105 9 o.type 5 g 0 dLen dCap S (arr n V) t Tryz.underlying105 (by kernel_rfl) hg hle (by simpa [arr_size] using hn)
  have he : ((arr n V).toList.take 0 ++ Lib.byteCells S.data.toList ++ (arr n V).toList.drop (0 + S.size)).toArray = arr n fun j => if j < S.size then by8 (sf S) j else V j := by
    have hl : (Lib.byteCells S.data.toList).length = S.size := by simp [Lib.byteCells]
    apply Array.ext_getElem?
    intro i
    simp only [List.take_zero, List.nil_append, Nat.zero_add, List.getElem?_toArray]
    rw [List.getElem?_append, hl]
    by_cases hi : i < S.size
    · rw [if_pos hi, byteCells_get S i hi, arr_get _ _ _ (by omega)]; simp [hi]
    · rw [if_neg hi, List.getElem?_drop, show S.size + (i - S.size) = i by omega]
      by_cases hin : i < n
      · rw [arr_get _ _ _ hin]; simp [arr, hin, hi]
      · simp [arr, hin]
  rw [he] at hrun
  unfold Oper.wp
  simp [execOp, ho, resolve, invoke, builtin, hd, hs, hrun, Result.andThen]
  exact hK _ _ (h _ (Chg.setRow _ _ _) hg.setRow)

theorem res40b {fn : Func} {p u : Tmp} (h : fn.results = #[.cell p 145, .tmp u]) (tmps : Array Value) (w : World) (g : Nat) (V : Nat → Value) (v : Value)
    (hp : tmps.getD p undef = .pointer (some ⟨g, 0, none⟩)) (hv : tmps.getD u undef = v) (hg : Row w g 16 145 V) : (results fn tmps).run Tryz.prog w = .ok (.tuple #[.agg (arr 16 V), v]) w := by
  have hp' : tmps[p]?.getD undef = .pointer (some ⟨g, 0, none⟩) := by simpa using hp
  have hv' : tmps[u]?.getD undef = v := by simpa using hv
  have hl := run_loadVar_row (P := Tryz.prog) w g 145 145 _ (0, 0) _ hg Tryz.underlying145 rfl (by rw [arr_size]; exact info40)
  simp [results, h, hp', hv', asAddr, hl]

theorem conv8 (w : World) (g n cap : Nat) (t : TypeId) (f : Nat → UInt8) (m : Nat) (h : Row w g m t (by8 f)) (hm : n ≤ m) :
    (convert 105 9 (.slice (some ⟨g, 0, none⟩) n cap)).run Tryz.prog w = .ok (.string (str n f)) w := by
  have := run_convert_bytes_back (P := Tryz.prog) w 105 9 5 ⟨g, 0, none⟩ cap ((List.range n).map f) Tryz.underlying105 Tryz.underlying5 Tryz.underlying9 (fun j hj => by
    have hj' : j < n := by simpa using hj
    have hadd : (⟨g, 0, none⟩ : Addr).add j = ⟨g, j, none⟩ := by unfold Addr.add; split <;> simp_all
    rw [hadd, h.cell j (by omega)]
    simp [by8])
  simpa [str] using this

set_option maxHeartbeats 400000 in
theorem of_no (s : ByteArray) (w : World) (h : s.size ≠ 16) :
    Calls Tryz.prog 87 #[.string s] w fun e w' =>
      e = .returned (.tuple #[.agg (arr 16 z8), .bool false]) ∧ Below w.heap.size w w' := by
  have hn : ((s.size : Int) != 16) = true := by rw [bne_iff_ne]; omega
  have r0 := (Row.new w 16 145 z8 w.heap.size rfl).alloc (.cells (arr 16 z8) 145)
  have r1 := Row.new (w.alloc (.cells (arr 16 z8) 145)) 16 145 z8 (w.heap.size + 1) (by simp)
  have b1 := (((Below.refl w.heap.size w).alloc (Nat.le_refl _) (.cells (arr 16 z8) 145)).alloc (by simp) (.cells (arr 16 z8) 145))
  have R0 : Hid _ := r0
  have R1 : Hid _ := r1
  have B1 : Hid _ := b1
  clear r0 r1 b1
  go_enter Tryz.func87, Tryz.ntmps87
  go_wp2_with (first
    | (refine ld40 rfl _ rfl _ rfl _ R1 ?_)
    | (refine st40' rfl _ _ rfl _ _ rfl rfl _ R0 ?_; intro w2 hc2 r4))
  refine bodyPost_ret (v := .tuple #[.agg (arr 16 z8), .bool false]) (res40b Tryz.results87 _ _ w.heap.size _ _ rfl rfl r4) rfl ⟨rfl, ?_⟩
  exact Below.chg B1 hc2 (by omega)

set_option maxHeartbeats 400000 in
theorem of_yes (s : ByteArray) (w : World) (h : s.size = 16) :
    Calls Tryz.prog 87 #[.string s] w fun e w' =>
      e = .returned (.tuple #[.agg (arr 16 (by8 (sf s))), .bool true]) ∧ Below w.heap.size w w' := by
  have hn : ((s.size : Int) != 16) = false := by rw [h]; rfl
  have h16 : s.size ≤ 16 := by omega
  have HS : Hid _ := h
  clear h
  have r0 := (Row.new w 16 145 z8 w.heap.size rfl).alloc (.cells (arr 16 z8) 145)
  have r1 := Row.new (w.alloc (.cells (arr 16 z8) 145)) 16 145 z8 (w.heap.size + 1) (by simp)
  have b1 := (((Below.refl w.heap.size w).alloc (Nat.le_refl _) (.cells (arr 16 z8) 145)).alloc (by simp) (.cells (arr 16 z8) 145))
  have R0 : Hid _ := r0
  have R1 : Hid _ := r1
  have B1 : Hid _ := b1
  clear r0 r1 b1
  go_enter Tryz.func87, Tryz.ntmps87
  go_wp2_with (first
    | (refine cpStr rfl _ _ rfl (w.heap.size + 1) 16 16 16 145 z8 s rfl rfl R1 h16 h16 ?_; intro w1 hc r2'; have r2 : Row w1 (w.heap.size + 1) 16 145 (by8 (sf s)) := r2'.congr (fun j hj => by rw [HS.out]; simp [hj]); have r3 : Row w1 w.heap.size 16 145 z8 := Row.chg R0 hc (by omega); clear r2')
    | (refine ld40 rfl _ rfl _ rfl _ r2 ?_)
    | (refine st40' rfl _ _ rfl _ _ rfl rfl _ r3 ?_; intro w2 hc2 r4))
  refine bodyPost_ret (v := .tuple #[.agg (arr 16 (by8 (sf s))), .bool true]) (res40b Tryz.results87 _ _ w.heap.size _ _ rfl rfl r4) rfl ⟨rfl, ?_⟩
  exact Below.chg (Below.chg B1 hc (by omega)) hc2 (by omega)

set_option maxHeartbeats 400000 in
theorem text_any (f : Nat → UInt8) (w : World) :
    Calls Tryz.prog 79 #[.agg (arr 16 (by8 f))] w fun e w' =>
      e = .returned (.string (str 16 f)) ∧ Below w.heap.size w w' := by
  have hcv := conv8 (w.alloc (.cells (arr 16 (by8 f)) 145)) w.heap.size 16 16 145 f 16 (Row.new _ _ _ _ _ rfl) (by omega)
  go_enter Tryz.func79, Tryz.ntmps79
  go_wp2
  go_ret
  exact ⟨rfl, (Below.refl _ _).alloc (Nat.le_refl _) _⟩
end Go.Proofs.YtgalgjmhdbncbaaGreat
