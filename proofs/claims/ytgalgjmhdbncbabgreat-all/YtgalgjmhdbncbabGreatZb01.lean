import Derived.Test.YtgalgjmhdbncbabGreatZb00
import Derived.Lib.BufferWrite
import Derived.Laws.IdiomStrings
import Derived.Deep.RegionHeld3
import Derived.Deep.MidRow
import Derived.Deep.DrawnRows
namespace Go.Proofs.YtgalgjmhdbncbabGreat
open Go.RowKit

def pk (f : Nat → UInt8) : Nat → BitVec 64
  | 0 => 0
  | k + 1 => (pk f k <<< 8) ||| (f k).toBitVec.setWidth 64

theorem up8_bv (a : BitVec 64) : IntKind.u64.wrap ((a.toNat : Int) * 256) = ((a <<< 8).toNat : Int) := by
  rw [IntKind.wrap_u64, BitVec.toNat_shiftLeft, Nat.shiftLeft_eq]; rfl
theorem byte_bv (b : UInt8) : ((b.toNat : Nat) : Int) = ((b.toBitVec.setWidth 64).toNat : Int) := by
  simp
theorem wrap_byte (b : UInt8) : IntKind.u64.wrap (b.toNat : Int) = ((b.toNat : Nat) : Int) := by
  have := b.toNat_lt
  rw [IntKind.wrap_u64]; omega
theorem pk_step (x : BitVec 64) (b : UInt8) : bits .or .u64 (IntKind.u64.wrap ((x.toNat : Int) * 256)) (IntKind.u64.wrap (b.toNat : Int)) = (((x <<< 8) ||| b.toBitVec.setWidth 64).toNat : Int) := by
  rw [wrap_byte, up8_bv, byte_bv b, u64_or_bv]
def pair (a b : BitVec 64) : Array Value := #[.int .u64 a.toNat, .int .u64 b.toNat]

set_option maxHeartbeats 400000 in
theorem polyOf_any (f : Nat → UInt8) (w : World) :
    Calls Tryz.prog 132 #[.agg (arr 16 (by8 f))] w fun e w' =>
      e = .returned (.agg #[.int .u64 (pk f 8).toNat, .int .u64 (pk (fun j => f (8 + j)) 8).toNat]) ∧ Below w.heap.size w w' := by
  go_enter Tryz.func132, Tryz.ntmps132
  go_wp2
  go_loopw [5] (fun i wr => ∃ k : Nat, k ≤ 8 ∧ i = .int .i64 k ∧ Row wr w.heap.size 16 141 (by8 f) ∧
     wr.heap[w.heap.size + 1 + 1]? = some (.cells #[.int .u64 (pk f k).toNat, .int .u64 (pk (fun j => f (8 + j)) k).toNat] 204 (0, 0)) ∧
     wr.heap[w.heap.size + 1]? = some (.cells #[.int .u64 0, .int .u64 0] 204 (0, 0)) ∧ Below w.heap.size w wr) (fun i _ => 8 - (intOf i).toNat)
  case atStart =>
    refine ⟨0, by omega, rfl, ?_, heap_of_new _ _ _ (by simp), heap_of_old _ _ _ _ (by simp) (heap_of_new _ _ _ (by simp)), ?_⟩
    · exact ((Row.new _ _ _ _ _ rfl).alloc _).alloc _
    · exact ((((Below.refl _ _).alloc (Nat.le_refl _) _).alloc (by simp) _).alloc (by simp; omega) _)
  case round =>
    obtain ⟨k, hk, rfl, r0, r1, r2, hB⟩ := hrel
    by_cases hlt : k < 8
    · have c0 : wr.cell? ⟨w.heap.size, k, none⟩ = some (.int .u8 (f k).toNat) := r0.cell k (by omega)
      have c1 : wr.cell? ⟨w.heap.size, 8 + k, none⟩ = some (.int .u8 (f (8 + k)).toNat) := r0.cell (8 + k) (by omega)
      have c2 : wr.cell? ⟨w.heap.size + 1 + 1, 0, none⟩ = some (.int .u64 (pk f k).toNat) := by rw [cell_of_row _ _ 0 _ _ _ r1]; rfl
      have c3 : wr.cell? ⟨w.heap.size + 1 + 1, 1, none⟩ = some (.int .u64 (pk (fun j => f (8 + j)) k).toNat) := by rw [cell_of_row _ _ 1 _ _ _ r1]; rfl
      have f0 : ∀ j, wr.frozen? ⟨w.heap.size + 1 + 1, j, none⟩ = false := fun j => frozen_of_row _ _ j _ _ r1
      go_wp2
      go_region
      go_wp2
      go_region
      go_wp2
      go_roundw
      case rel =>
        rw [pk_step, pk_step]
        refine ⟨k + 1, by omega, by go_num, (((r0.other (by omega)).other (by omega)).drew).drew, heap_two _ _ _ _ _ _ _ r1, ?_, (((hB.setCell (by simp; omega) _).setCell (by simp; omega) _).drew).drew⟩
        rw [heap_drew, heap_drew, heap_skip _ _ _ _ _ (by omega), heap_skip _ _ _ _ _ (by omega)]; exact r2
      case measure => simp [intOf]; omega
    · have hk8 : k = 8 := by omega
      subst hk8
      have c2 : wr.cell? ⟨w.heap.size + 1 + 1, 0, none⟩ = some (.int .u64 (pk f 8).toNat) := by rw [cell_of_row _ _ 0 _ _ _ r1]; rfl
      have c3 : wr.cell? ⟨w.heap.size + 1 + 1, 1, none⟩ = some (.int .u64 (pk (fun j => f (8 + j)) 8).toNat) := by rw [cell_of_row _ _ 1 _ _ _ r1]; rfl
      have c4 : wr.cell? ⟨w.heap.size + 1, 0, none⟩ = some (.int .u64 0) := by rw [cell_of_row _ _ 0 _ _ _ r2]; rfl
      have c5 : wr.cell? ⟨w.heap.size + 1, 1, none⟩ = some (.int .u64 0) := by rw [cell_of_row _ _ 1 _ _ _ r2]; rfl
      have f0 : ∀ j, wr.frozen? ⟨w.heap.size + 1, j, none⟩ = false := fun j => frozen_of_row _ _ j _ _ r2
      generalize hx : pk f 8 = x at *
      generalize hy : pk (fun j => f (8 + j)) 8 = y at *
      have HX : Hid _ := hx
      have HY : Hid _ := hy
      clear hx hy
      go_wp2
      refine bodyPost_ret (v := .agg #[.int .u64 x.toNat, .int .u64 y.toNat]) (results_cell_row Tryz.results132 _ _ (w.heap.size + 1) 204 _ (0, 0) _ rfl (heap_two _ _ _ _ _ _ _ r2) Tryz.underlying204 rfl (by kernel_rfl)) rfl ⟨by rw [HX.out, HY.out], ?_⟩
      exact (hB.setCell (by simp) _).setCell (by simp) _

def upk (a b : BitVec 64) (j : Nat) : UInt8 := if j < 8 then ⟨(a >>> (8 * (7 - j))).setWidth 8⟩ else ⟨(b >>> (8 * (15 - j))).setWidth 8⟩
theorem shr8 (a : BitVec 64) (k : Nat) : ((a >>> (8 * k)).toNat : Int) / (256 : Int) = ((a >>> (8 * (k + 1))).toNat : Int) := by
  rw [show 8 * (k + 1) = 8 * k + 8 by omega, BitVec.shiftRight_add, BitVec.toNat_ushiftRight (a >>> (8 * k)), Nat.shiftRight_eq_div_pow]; rfl
theorem low8 (a : BitVec 64) : ((a.toNat : Int) % (256 : Int)) = (((⟨a.setWidth 8⟩ : UInt8).toNat : Nat) : Int) := by
  show _ = (((a.setWidth 8).toNat : Nat) : Int)
  rw [BitVec.toNat_setWidth]; rfl

set_option maxHeartbeats 400000 in
theorem pblock_any (a b : BitVec 64) (w : World) :
    Calls Tryz.prog 134 #[.agg #[.int .u64 a.toNat, .int .u64 b.toNat]] w fun e w' =>
      e = .returned (.agg (arr 16 (by8 (upk a b)))) ∧ Below w.heap.size w w' := by
  go_enter Tryz.func134, Tryz.ntmps134
  go_wp2
  go_loopw [4] (fun i wr => ∃ k : Nat, k ≤ 8 ∧ i = .int .i64 (7 - (k : Int)) ∧ Row wr (w.heap.size + 1 + 1) 16 141 (by8 fun j => if (8 - k ≤ j ∧ j < 8) ∨ 16 - k ≤ j then upk a b j else 0) ∧ Row wr (w.heap.size + 1) 16 141 z8 ∧
     wr.heap[w.heap.size]? = some (.cells #[.int .u64 (a >>> (8 * k)).toNat, .int .u64 (b >>> (8 * k)).toNat] 204 (0, 0)) ∧ Below w.heap.size w wr) (fun i _ => (intOf i + 1).toNat)
  case atStart =>
    refine ⟨0, by omega, rfl, ?_, ?_, ?_, ?_⟩
    · refine Row.congr (V := z8) ?_ ?_
      · exact Row.lit _ _ _ z8 _ _ (by simp) rfl
      intro j hj
      simp only [z8, by8]
      rw [if_neg (by omega)]
    · have h := Row.new (w.alloc (Obj.cells #[.int .u64 a.toNat, .int .u64 b.toNat] 204)) 16 141 z8 (w.heap.size + 1) (by simp)
      exact h.alloc _
    · exact heap_of_old _ _ _ _ (by simp; omega) (heap_of_old _ _ _ _ (by simp) (heap_of_new _ _ _ rfl))
    · exact ((((Below.refl _ _).alloc (Nat.le_refl _) _).alloc (by simp) _).alloc (by simp; omega) _)
  case round =>
    obtain ⟨k, hk, rfl, r0, r1, r2, hB⟩ := hrel
    by_cases hlt : k < 8
    · have c0 := r0.cell (7 - k) (by omega)
      have c1 := r0.cell (8 + (7 - k)) (by omega)
      have c2 : wr.cell? ⟨w.heap.size, 0, none⟩ = some (.int .u64 (a >>> (8 * k)).toNat) := by rw [cell_of_row _ _ 0 _ _ _ r2]; rfl
      have c3 : wr.cell? ⟨w.heap.size, 1, none⟩ = some (.int .u64 (b >>> (8 * k)).toNat) := by rw [cell_of_row _ _ 1 _ _ _ r2]; rfl
      have f0 : ∀ j, wr.frozen? ⟨w.heap.size, j, none⟩ = false := fun j => frozen_of_row _ _ j _ _ r2
      have f1 : ∀ j, wr.frozen? ⟨w.heap.size + 1 + 1, j, none⟩ = false := fun j => r0.frozen j
      have ea := shr8 a k
      have eb := shr8 b k
      have HA : Hid _ := ea
      have HB : Hid _ := eb
      have la : Hid _ := low8 (a >>> (8 * k))
      have lb : Hid _ := low8 (b >>> (8 * k))
      have ua : Hid (upk a b (7 - k) = ⟨(a >>> (8 * k)).setWidth 8⟩) := by
        unfold upk Hid; rw [if_pos (by omega), show 7 - (7 - k) = k by omega]
      have ub : Hid (upk a b (8 + (7 - k)) = ⟨(b >>> (8 * k)).setWidth 8⟩) := by
        unfold upk Hid; rw [if_neg (by omega), show 15 - (8 + (7 - k)) = k by omega]
      clear ea eb
      generalize hA : a >>> (8 * k) = A at *
      generalize hBb : b >>> (8 * k) = Bb at *
      clear hA hBb
      go_wp2
      go_region
      go_wp2
      go_roundw
      case rel =>
        rw [HA.out, HB.out, la.out, lb.out]
        refine ⟨k + 1, by omega, by go_num, (((((r0.set (7 - k) _).set (8 + (7 - k)) _).congr ?_).other (by omega)).other (by omega)).drew, ?_, ?_, ?_⟩
        · intro j hj
          by_cases h1 : j = 8 + (7 - k)
          · subst h1
            simp only [by8, if_true]
            rw [if_pos (by omega), ub.out]
          · by_cases h2 : j = 7 - k
            · subst h2
              simp only [by8, if_true]
              rw [if_neg (by omega), if_pos (by omega), ua.out]
            · simp only [by8, h1, h2, if_false]
              by_cases h3 : (8 - k ≤ j ∧ j < 8) ∨ 16 - k ≤ j
              · rw [if_pos h3, if_pos (by omega)]
              · rw [if_neg h3, if_neg (by omega)]
        · exact ((((r1.other (by omega)).other (by omega)).other (by omega)).other (by omega)).drew
        · rw [heap_drew]
          refine heap_two _ _ (.int .u64 A.toNat) (.int .u64 Bb.toNat) _ _ _ ?_
          rw [heap_skip _ _ _ _ _ (by omega), heap_skip _ _ _ _ _ (by omega)]; exact r2
        · exact ((((hB.setCell (by simp; omega) _).setCell (by simp; omega) _).setCell (by simp) _).setCell (by simp) _).drew
      case measure => simp [intOf]; omega
    · have hk8 : k = 8 := by omega
      subst hk8
      have r0 : Row wr (w.heap.size + 1 + 1) 16 141 (by8 (upk a b)) := r0.congr (fun j hj => by simp only [by8]; rw [if_pos (by omega)])
      go_wp2_with (first | (refine ld40 rfl _ rfl _ rfl _ r0 ?_) | (refine st40 rfl _ _ rfl _ _ rfl rfl _ r1 ?_))
      refine bodyPost_ret (res40 Tryz.results134 _ _ (w.heap.size + 1) _ rfl r1.setRow) rfl ⟨rfl, ?_⟩
      exact Below.setRow hB (by omega) _
end Go.Proofs.YtgalgjmhdbncbabGreat
namespace Go.Proofs.YtgalgjmhdbncbabGreat
open Go.RowKit

def sf (s : ByteArray) (j : Nat) : UInt8 := s.data.getD j 0
def str (n : Nat) (f : Nat → UInt8) : ByteArray := ⟨((List.range n).map f).toArray⟩
theorem str_size (n : Nat) (f : Nat → UInt8) : (str n f).size = n := by simp [str, ByteArray.size]
theorem sf_str (n : Nat) (f : Nat → UInt8) (j : Nat) (h : j < n) : sf (str n f) j = f j := by simp [sf, str, h]
theorem str_sf (s : ByteArray) (n : Nat) (h : s.size = n) : str n (sf s) = s := by
  cases s with
  | mk d =>
    have h' : d.size = n := h
    unfold str
    congr 1
    apply Array.ext
    · simp [h']
    · intro i h1 h2
      simp [sf, h2]
theorem str_congr {n : Nat} {f g : Nat → UInt8} (h : ∀ j, j < n → f j = g j) : str n f = str n g := by
  unfold str
  congr 2
  exact List.map_congr_left (fun j hj => h j (by simpa using hj))

theorem byteCells_get (s : ByteArray) (j : Nat) (h : j < s.size) : (Lib.byteCells s.data.toList)[j]? = some (by8 (sf s) j) := by
  have h' : j < s.data.size := h
  simp [Lib.byteCells, by8, sf, Array.getElem?_eq_getElem h']

structure Chg (g : Nat) (w w' : World) : Prop where
  os : w'.os = w.os
  tape : w'.tape = w.tape
  output : w'.output = w.output
  size : w'.heap.size = w.heap.size
  block : ∀ k, k ≠ g → w'.heap[k]? = w.heap[k]?
theorem Chg.setRow (w : World) (g : Nat) (cs : Array Value) : Chg g w (w.setRow g cs) := ⟨rfl, rfl, rfl, by simp, fun k hk => Go.setRow_other w g k cs hk⟩
theorem Row.chg {w w' : World} {g n k : Nat} {t : TypeId} {V : Nat → Value} (h : Row w k n t V) (hc : Chg g w w') (hk : k ≠ g) : Row w' k n t V := by
  unfold Row; rw [hc.block k hk]; exact h
theorem Below.chg {B g : Nat} {a w w' : World} (h : Below B a w) (hc : Chg g w w') (hg : B ≤ g) : Below B a w' :=
  h.trans ⟨hc.os, hc.tape, hc.output, by rw [hc.size]; exact Nat.le_refl _, fun k hk => hc.block k (by omega)⟩
theorem st40' {ops : Array Oper} {rest : List Oper} {o : Oper} {a : Act} {w : World} {Q : Exit → Act → World → Prop} (hgd : o.guard = none) (x y : Operand) (ho : o.op = .store 141 x y)
    (g : Nat) (f : Nat → UInt8) (hx : a.eval x = .pointer (some ⟨g, 0, none⟩)) (hy : a.eval y = .agg (arr 16 (by8 f))) (V : Nat → Value) (hg : Row w g 16 141 V)
    (h : ∀ w', Chg g w w' → Row w' g 16 141 (by8 f) → wpList Tryz.prog ops Q rest (a.put o.dst undef) w') : wpList Tryz.prog ops Q (o :: rest) a w :=
  st40 hgd x y ho g f hx hy V hg (h _ (Chg.setRow _ _ _) hg.setRow)

theorem cpStr {ops : Array Oper} {rest : List Oper} {o : Oper} {a : Act} {w : World} {Q : Exit → Act → World → Prop} (hgd : o.guard = none) (d s : Operand)
    (ho : o.op = .call { callee := .builtin .copy, args := #[d, s], argTypes := #[134, 9] }) (g n dLen dCap : Nat) (t : TypeId) (V : Nat → Value) (S : ByteArray)
    (hd : a.eval d = .slice (some ⟨g, 0, none⟩) dLen dCap) (hs : a.eval s = .string S) (hg : Row w g n t V) (hle : S.size ≤ dLen) (hn : S.size ≤ n)
    (h : ∀ w', Chg g w w' → Row w' g n t (fun j => if j < S.size then by8 (sf S) j else V j) → wpList Tryz.prog ops Q rest (a.put o.dst (goInt S.size)) w') : wpList Tryz.prog ops Q (o :: rest) a w := by
  refine wpList_plain hgd fun K hK => ?_
  have hrun := Lib.run_copy_row_string (P := Tryz.prog) w 134 9 o.type 5 g 0 dLen dCap S (arr n V) t Tryz.underlying134 (by kernel_rfl) hg hle (by simpa [arr_size] using hn)
  have he : ((arr n V).toList.take 0 ++ Lib.byteCells S.data.toList ++ (arr n V).toList.drop (0 + S.size)).toArray = arr n fun j => if j < S.size then by8 (sf S) j else V j := by
    have hl : (Lib.byteCells S.data.toList).length = S.size := by simp [Lib.byteCells]
    apply Array.ext_getElem?
    intro i
    simp only [List.take_zero, List.nil_append, Nat.zero_add, List.getElem?_toArray]
    rw [List.getElem?_append, hl]
    by_cases hi : i < S.size
    · rw [if_pos hi, byteCells_get S i hi, arr_get _ _ _ (by omega)]; simp [hi]
    · rw [if_neg hi, List.getElem?_drop, show S.size + (i - S.size) = i by omega]
      by_cases hin : i < n
      · rw [arr_get _ _ _ hin]; simp [arr, hin, hi]
      · simp [arr, hin]
  rw [he] at hrun
  unfold Oper.wp
  simp [execOp, ho, resolve, invoke, builtin, hd, hs, hrun, Result.andThen]
  exact hK _ _ (h _ (Chg.setRow _ _ _) hg.setRow)

theorem res40b {fn : Func} {p u : Tmp} (h : fn.results = #[.cell p 141, .tmp u]) (tmps : Array Value) (w : World) (g : Nat) (V : Nat → Value) (v : Value)
    (hp : tmps.getD p undef = .pointer (some ⟨g, 0, none⟩)) (hv : tmps.getD u undef = v) (hg : Row w g 16 141 V) : (results fn tmps).run Tryz.prog w = .ok (.tuple #[.agg (arr 16 V), v]) w := by
  have hp' : tmps[p]?.getD undef = .pointer (some ⟨g, 0, none⟩) := by simpa using hp
  have hv' : tmps[u]?.getD undef = v := by simpa using hv
  have hl := run_loadVar_row (P := Tryz.prog) w g 141 141 _ (0, 0) _ hg Tryz.underlying141 rfl (by rw [arr_size]; exact info40)
  simp [results, h, hp', hv', asAddr, hl]

theorem conv8 (w : World) (g n cap : Nat) (t : TypeId) (f : Nat → UInt8) (m : Nat) (h : Row w g m t (by8 f)) (hm : n ≤ m) :
    (convert 134 9 (.slice (some ⟨g, 0, none⟩) n cap)).run Tryz.prog w = .ok (.string (str n f)) w := by
  have := run_convert_bytes_back (P := Tryz.prog) w 134 9 5 ⟨g, 0, none⟩ cap ((List.range n).map f) Tryz.underlying134 Tryz.underlying5 Tryz.underlying9 (fun j hj => by
    have hj' : j < n := by simpa using hj
    have hadd : (⟨g, 0, none⟩ : Addr).add j = ⟨g, j, none⟩ := by unfold Addr.add; split <;> simp_all
    rw [hadd, h.cell j (by omega)]
    simp [by8])
  simpa [str] using this

set_option maxHeartbeats 400000 in
theorem of_no (s : ByteArray) (w : World) (h : s.size ≠ 16) :
    Calls Tryz.prog 79 #[.string s] w fun e w' =>
      e = .returned (.tuple #[.agg (arr 16 z8), .bool false]) ∧ Below w.heap.size w w' := by
  have hn : ((s.size : Int) != 16) = true := by rw [bne_iff_ne]; omega
  have r0 := (Row.new w 16 141 z8 w.heap.size rfl).alloc (.cells (arr 16 z8) 141)
  have r1 := Row.new (w.alloc (.cells (arr 16 z8) 141)) 16 141 z8 (w.heap.size + 1) (by simp)
  have b1 := (((Below.refl w.heap.size w).alloc (Nat.le_refl _) (.cells (arr 16 z8) 141)).alloc (by simp) (.cells (arr 16 z8) 141))
  have R0 : Hid _ := r0
  have R1 : Hid _ := r1
  have B1 : Hid _ := b1
  clear r0 r1 b1
  go_enter Tryz.func79, Tryz.ntmps79
  go_wp2_with (first
    | (refine ld40 rfl _ rfl _ rfl _ R1 ?_)
    | (refine st40' rfl _ _ rfl _ _ rfl rfl _ R0 ?_; intro w2 hc2 r4))
  refine bodyPost_ret (v := .tuple #[.agg (arr 16 z8), .bool false]) (res40b Tryz.results79 _ _ w.heap.size _ _ rfl rfl r4) rfl ⟨rfl, ?_⟩
  exact Below.chg B1 hc2 (by omega)

set_option maxHeartbeats 400000 in
theorem of_yes (s : ByteArray) (w : World) (h : s.size = 16) :
    Calls Tryz.prog 79 #[.string s] w fun e w' =>
      e = .returned (.tuple #[.agg (arr 16 (by8 (sf s))), .bool true]) ∧ Below w.heap.size w w' := by
  have hn : ((s.size : Int) != 16) = false := by rw [h]; rfl
  have h16 : s.size ≤ 16 := by omega
  have HS : Hid _ := h
  clear h
  have r0 := (Row.new w 16 141 z8 w.heap.size rfl).alloc (.cells (arr 16 z8) 141)
  have r1 := Row.new (w.alloc (.cells (arr 16 z8) 141)) 16 141 z8 (w.heap.size + 1) (by simp)
  have b1 := (((Below.refl w.heap.size w).alloc (Nat.le_refl _) (.cells (arr 16 z8) 141)).alloc (by simp) (.cells (arr 16 z8) 141))
  have R0 : Hid _ := r0
  have R1 : Hid _ := r1
  have B1 : Hid _ := b1
  clear r0 r1 b1
  go_enter Tryz.func79, Tryz.ntmps79
  go_wp2_with (first
    | (refine cpStr rfl _ _ rfl (w.heap.size + 1) 16 16 16 141 z8 s rfl rfl R1 h16 h16 ?_; intro w1 hc r2'; have r2 : Row w1 (w.heap.size + 1) 16 141 (by8 (sf s)) := r2'.congr (fun j hj => by rw [HS.out]; simp [hj]); have r3 : Row w1 w.heap.size 16 141 z8 := Row.chg R0 hc (by omega); clear r2')
    | (refine ld40 rfl _ rfl _ rfl _ r2 ?_)
    | (refine st40' rfl _ _ rfl _ _ rfl rfl _ r3 ?_; intro w2 hc2 r4))
  refine bodyPost_ret (v := .tuple #[.agg (arr 16 (by8 (sf s))), .bool true]) (res40b Tryz.results79 _ _ w.heap.size _ _ rfl rfl r4) rfl ⟨rfl, ?_⟩
  exact Below.chg (Below.chg B1 hc (by omega)) hc2 (by omega)

set_option maxHeartbeats 400000 in
theorem text_any (f : Nat → UInt8) (w : World) :
    Calls Tryz.prog 81 #[.agg (arr 16 (by8 f))] w fun e w' =>
      e = .returned (.string (str 16 f)) ∧ Below w.heap.size w w' := by
  have hcv := conv8 (w.alloc (.cells (arr 16 (by8 f)) 141)) w.heap.size 16 16 141 f 16 (Row.new _ _ _ _ _ rfl) (by omega)
  go_enter Tryz.func81, Tryz.ntmps81
  go_wp2
  go_ret
  exact ⟨rfl, (Below.refl _ _).alloc (Nat.le_refl _) _⟩
end Go.Proofs.YtgalgjmhdbncbabGreat
namespace Go.Proofs.YtgalgjmhdbncbabGreat
open Go.RowKit
attribute [local go_sem ↓] Go.wp_at_zero Go.wp_at_succ

def cl (n : Nat) (V : Nat → Value) : List Value := (List.range n).map V
theorem cl_length (n : Nat) (V : Nat → Value) : (cl n V).length = n := by simp [cl]
theorem cl_one (n : Nat) (f : Nat → UInt8) : ∀ v ∈ cl n (by8 f), v.oneCell' = true := by
  intro v hv
  simp only [cl, List.mem_map] at hv
  obtain ⟨j, _, rfl⟩ := hv
  rfl
theorem cl_info (f : Nat → UInt8) : (Tryz.prog.info? 141).map (·.size) = some (cl 16 (by8 f)).length := by rw [cl_length]; exact info40
theorem Row.range {w : World} {g n : Nat} {t : TypeId} {V : Nat → Value} (h : Row w g n t V) : w.rangeAt g 0 (cl n V) := by
  intro j v hv
  have hj : j < n := by
    have := (List.getElem?_eq_some_iff.1 hv).1
    rwa [cl_length] at this
  have : (cl n V)[j]? = some (V j) := by simp [cl, hj]
  rw [this] at hv
  rw [Nat.zero_add, h.cell j hj]; exact hv
theorem Row.there {w : World} {g n : Nat} {t : TypeId} {V : Nat → Value} (h : Row w g n t V) : w.there g 0 n := by
  intro j hj
  rw [Nat.zero_add, h.cell j hj, h.frozen]
  exact ⟨rfl, rfl⟩
def prodSt (f g : Nat → UInt8) : St := runT (pk f 8) (pk (fun j => f (8 + j)) 8) ⟨0, 0, pk g 8, pk (fun j => g (8 + j)) 8⟩ 2
def prod (f g : Nat → UInt8) : Nat → UInt8 := upk (prodSt f g).sH (prodSt f g).sL
theorem times_cl (f g : Nat → UInt8) (w : World) :
    Calls Tryz.prog 133 #[.agg #[.int .u64 (pk f 8).toNat, .int .u64 (pk (fun j => f (8 + j)) 8).toNat], .agg #[.int .u64 (pk g 8).toNat, .int .u64 (pk (fun j => g (8 + j)) 8).toNat]] w fun e w' =>
      e = .returned (.agg #[.int .u64 (prodSt f g).sH.toNat, .int .u64 (prodSt f g).sL.toNat]) ∧ Below w.heap.size w w' := times_any _ _ _ _ w

structure S3 (w0 w : World) (n : Nat) (f g : Nat → UInt8) : Prop where
  r0 : Row w n 16 141 (by8 f)
  r1 : Row w (n + 1) 16 141 (by8 g)
  r2 : Row w (n + 1 + 1) 16 141 z8
  b : Below n w0 w

def Ld40 (v : Value) : Sem Value := Instr.loadAt 141 v
theorem ld40_wrap (v : Value) : Instr.loadAt 141 v = Ld40 v := rfl
def ldOrig (P : Program) (g : Nat) (w : World) : Result Value := Sem.run P (Instr.loadAt 141 (.pointer (some ⟨g, 0, none⟩))) w
def stOrig (P : Program) (v : Value) (g : Nat) (w : World) : Result Unit := Sem.run P (Instr.storeAt 141 (.pointer (some ⟨g, 0, none⟩)) v) w
def ldRes (o : Option Obj) (w : World) (r : Result Value) : Result Value :=
  match o with
  | some (.cells cs t fr) => if cs.size = 16 ∧ t = 141 ∧ fr = (0, 0) then .ok (.agg cs) w else r
  | _ => r
def blk (w : World) (g : Nat) : Option Obj := w.heap[g]?
theorem run_ld40 (g : Nat) (w : World) : Sem.run Tryz.prog (Ld40 (.pointer (some ⟨g, 0, none⟩))) w = ldRes (blk w g) w (ldOrig Tryz.prog g w) := by
  unfold ldRes blk
  split
  · rename_i cs t fr h
    split
    · rename_i hc
      obtain ⟨h1, rfl, rfl⟩ := hc
      show Sem.run Tryz.prog (Instr.loadAt 141 (.pointer (some ⟨g, 0, none⟩))) w = _
      simp only [Instr.loadAt, Instr.sureAddr, Sem.run_bind, Sem.run_pure, Result.andThen_ok]
      exact run_loadVar_row w g 141 141 _ (0, 0) _ h Tryz.underlying141 rfl (by rw [h1]; exact info40)
    · rfl
  · rfl
theorem ldRes_row (V : Nat → Value) (w : World) (r : Result Value) : ldRes (some (.cells (arr 16 V) 141 (0, 0))) w r = .ok (.agg (arr 16 V)) w := by
  simp [ldRes, arr_size]
def St40 (p v : Value) : Sem Unit := Instr.storeAt 141 p v
theorem st40_wrap (p v : Value) : Instr.storeAt 141 p v = St40 p v := rfl
def stRes (o : Option Obj) (v : Value) (g : Nat) (w : World) (r : Result Unit) : Result Unit :=
  match o, v with
  | some (.cells cs t fr), .agg cs' => if cs.size = 16 ∧ t = 141 ∧ fr = (0, 0) ∧ cs'.size = 16 ∧ cs'.all (·.oneCell') = true then .ok () (w.setRow g cs') else r
  | _, _ => r
theorem run_st40 (g : Nat) (v : Value) (w : World) : Sem.run Tryz.prog (St40 (.pointer (some ⟨g, 0, none⟩)) v) w = stRes (blk w g) v g w (stOrig Tryz.prog v g w) := by
  unfold stRes blk
  split
  · rename_i cs t fr cs' h
    split
    · rename_i hc
      obtain ⟨h1, rfl, rfl, h2, h3⟩ := hc
      show Sem.run Tryz.prog (Instr.storeAt 141 (.pointer (some ⟨g, 0, none⟩)) (.agg cs')) w = _
      simp only [Instr.storeAt, Instr.sureAddr, Sem.run_bind, Sem.run_pure, Result.andThen_ok]
      exact run_storeVar_row w g 141 141 _ _ h (by rw [h2]; exact info40) (by rw [h1, h2]) h3
    · rfl
  · rfl
theorem stRes_row (V : Nat → Value) (f : Nat → UInt8) (g : Nat) (w : World) (r : Result Unit) : stRes (some (.cells (arr 16 V) 141 (0, 0))) (.agg (arr 16 (by8 f))) g w r = .ok () (w.setRow g (arr 16 (by8 f))) := by
  have h := one8 16 f
  have hc : (arr 16 V).size = 16 ∧ (141 : Nat) = 141 ∧ ((0, 0) : Nat × Nat) = (0, 0) ∧ (arr 16 (by8 f)).size = 16 ∧ (arr 16 (by8 f)).all (·.oneCell') = true := ⟨arr_size _ _, rfl, rfl, arr_size _ _, h⟩
  unfold stRes
  exact if_pos hc
theorem stRes_z (V : Nat → Value) (g : Nat) (w : World) (r : Result Unit) : stRes (some (.cells (arr 16 V) 141 (0, 0))) (.agg (arr 16 z8)) g w r = .ok () (w.setRow g (arr 16 z8)) := stRes_row V _ g w r
theorem heap_pos {w : World} {g n : Nat} {t : TypeId} {V : Nat → Value} (h : Row w g n t V) : blk w g = some (.cells (arr n V) t (0, 0)) := h
theorem z16_lit : (#[.int .u8 0, .int .u8 0, .int .u8 0, .int .u8 0, .int .u8 0, .int .u8 0, .int .u8 0, .int .u8 0, .int .u8 0, .int .u8 0, .int .u8 0, .int .u8 0, .int .u8 0, .int .u8 0, .int .u8 0, .int .u8 0] : Array Value) = arr 16 z8 := rfl
theorem blk_new (w : World) (o : Obj) : blk (w.alloc o) w.heap.size = some o := Go.heap_alloc_new w o
theorem blk_at (w : World) (o : Obj) (g : Nat) (h : g = w.heap.size) : blk (w.alloc o) g = some o := by subst h; exact blk_new w o
theorem blk_old (w : World) (o : Obj) (g : Nat) (h : g < w.heap.size) : blk (w.alloc o) g = blk w g := Below.heap_alloc w o g h
theorem blk_drew (w : World) (g : Nat) : blk w.drew g = blk w g := rfl
theorem blk_setCell (w : World) (b o g : Nat) (v : Value) (h : ¬ g = b) : blk (w.setCell ⟨b, o, none⟩ v) g = blk w g := heap_skip w b g o v h
theorem blk_setRow (w : World) (b g : Nat) (cs : Array Value) (h : ¬ g = b) : blk (w.setRow b cs) g = blk w g := Go.setRow_other w b g cs h
theorem alloc_setRow (w : World) (cs cs' : Array Value) (t : TypeId) : (w.alloc (.cells cs t)).setRow w.heap.size cs' = w.alloc (.cells cs' t) := by
  have h := Go.heap_alloc_new w (.cells cs t)
  unfold World.setRow World.alloc
  congr 1
  apply Array.ext
  · simp
  · intro i h1 h2
    simp only [Array.getElem_modify, Array.getElem_push]
    by_cases hi : i = w.heap.size
    · subst hi; simp
    · have h3 : ¬ w.heap.size = i := fun e => hi e.symm
      have h4 : i < w.heap.size := by
        simp only [Array.size_push] at h2
        omega
      simp [h3, h4]
attribute [local go_sem ↓] ld40_wrap st40_wrap
attribute [local go_sem] run_ld40 run_st40 ldRes_row stRes_row stRes_z z16_lit blk_new blk_old blk_drew blk_setCell blk_setRow alloc_setRow

theorem S3.drew {w0 w : World} {n : Nat} {f g : Nat → UInt8} (h : S3 w0 w n f g) : S3 w0 w.drew n f g := ⟨h.r0, h.r1, h.r2, h.b.drew⟩
theorem S3.keep {w0 w w1 : World} {n : Nat} {f g : Nat → UInt8} (h : S3 w0 w n f g) (hb : Below w.heap.size w w1) : S3 w0 w1 n f g :=
  ⟨h.r0.keep hb h.r0.lt, h.r1.keep hb h.r1.lt, h.r2.keep hb h.r2.lt, h.b.trans (hb.mono (Nat.le_of_lt h.r0.lt))⟩
set_option maxRecDepth 100000 in
set_option maxHeartbeats 800000 in
theorem btimes_any (f g : Nat → UInt8) (w : World) :
    Calls Tryz.prog 116 #[.agg (arr 16 (by8 f)), .agg (arr 16 (by8 g))] w fun e w' =>
      e = .returned (.agg (arr 16 (by8 (prod f g)))) ∧ Below w.heap.size w w' := by
  go_enter Tryz.func116, Tryz.ntmps116
  go_wp2
  suffices H : ∀ W, S3 w W w.heap.size f g → Code.wp Tryz.prog _ _ _ W from H _ ⟨((Row.new _ _ _ _ _ rfl).alloc _).alloc _, (Row.new _ _ _ _ _ (by simp)).alloc _, Row.lit _ _ _ _ _ _ (by simp) rfl, (((Below.refl _ _).alloc (Nat.le_refl _) _).alloc (by simp) _).alloc (by simp; omega) _⟩
  intro W hS
  have r0 := heap_pos hS.r0
  have r1 := heap_pos hS.r1
  have r2 := heap_pos hS.r2
  go_region_with (first
    | (go_at_call 132; refine (polyOf_any _ _).mono ?_; rintro e w1 ⟨rfl, hb1⟩; first | (have hS := hS.keep hb1) | (have hS := hS.drew.keep hb1); have r0 := heap_pos hS.r0; have r1 := heap_pos hS.r1; have r2 := heap_pos hS.r2)
    | (go_at_call 133; refine (times_cl f g _).mono ?_; rintro e w1 ⟨rfl, hb1⟩; have hS := hS.keep hb1; have r2 := heap_pos hS.r2)
    | (go_at_call 134; refine (pblock_any _ _ _).mono ?_; rintro e w1 ⟨rfl, hb1⟩; have hS := hS.keep hb1; have r2 := heap_pos hS.r2))
  all_goals
    go_wp2
    refine bodyPost_ret (res40 Tryz.results116 _ _ (w.heap.size + 1 + 1) _ rfl hS.r2.setRow) rfl ⟨rfl, ?_⟩
    exact Below.setRow hS.b (by omega) _

end Go.Proofs.YtgalgjmhdbncbabGreat
namespace Go.Proofs.YtgalgjmhdbncbabGreat
open Go.RowKit
def Al (t : TypeId) : Sem Value := Instr.alloc t true (.tuple #[])
theorem al40 : Instr.alloc 141 true (.tuple #[]) = Al 141 := rfl
theorem al50 : Instr.alloc 172 true (.tuple #[]) = Al 172 := rfl
theorem al60 : Instr.alloc 197 true (.tuple #[]) = Al 197 := rfl
theorem al62 : Instr.alloc 199 true (.tuple #[]) = Al 199 := rfl
theorem al63 : Instr.alloc 200 true (.tuple #[]) = Al 200 := rfl
theorem al52 : Instr.alloc 174 true (.tuple #[]) = Al 174 := rfl
theorem run_al40 (w : World) : Sem.run Tryz.prog (Al 141) w = .ok (.pointer (some ⟨w.heap.size, 0, none⟩)) (w.alloc (.cells (arr 16 z8) 141)) := by kernel_rfl
theorem run_al63 (w : World) : Sem.run Tryz.prog (Al 200) w = .ok (.pointer (some ⟨w.heap.size, 0, none⟩)) (w.alloc (.cells (arr 4 z8) 200)) := by kernel_rfl
theorem run_al50 (w : World) : Sem.run Tryz.prog (Al 172) w = .ok (.pointer (some ⟨w.heap.size, 0, none⟩)) (w.alloc (.cells (arr 256 z8) 172)) := by kernel_rfl
theorem run_al60 (w : World) : Sem.run Tryz.prog (Al 197) w = .ok (.pointer (some ⟨w.heap.size, 0, none⟩)) (w.alloc (.cells (arr 255 z8) 197)) := by kernel_rfl
theorem run_al62 (w : World) : Sem.run Tryz.prog (Al 199) w = .ok (.pointer (some ⟨w.heap.size, 0, none⟩)) (w.alloc (.cells (arr 240 z8) 199)) := by kernel_rfl
theorem run_al52 (w : World) : Sem.run Tryz.prog (Al 174) w = .ok (.pointer (some ⟨w.heap.size, 0, none⟩)) (w.alloc (.cells (arr 240 z8) 174)) := by kernel_rfl

def Bd (t : TypeId) (ps : Array (Nat × Value)) : Sem Value := Instr.build t ps
theorem bd50 (ps : Array (Nat × Value)) : Instr.build 172 ps = Bd 172 ps := rfl
theorem bd55 (ps : Array (Nat × Value)) : Instr.build 177 ps = Bd 177 ps := rfl
theorem run_bd50 (b : UInt8) (w : World) : Sem.run Tryz.prog (Bd 172 #[(0, .int .u8 b.toNat)]) w = .ok (.agg (arr 256 (by8 fun j => if j = 0 then b else 0))) w := by kernel_rfl
def ciph (r : Nat) (ks bx : Nat → UInt8) (j : Nat) : Value := if j = 0 then .int .i64 r else if j < 241 then by8 ks (j - 1) else by8 bx (j - 241)
theorem run_bd55 (r : Nat) (ks bx : Nat → UInt8) (w : World) : Sem.run Tryz.prog (Bd 177 #[(0, .int .i64 r), (1, .agg (arr 240 (by8 ks))), (2, .agg (arr 256 (by8 bx)))]) w = .ok (.agg (arr 497 (ciph r ks bx))) w := by kernel_rfl
end Go.Proofs.YtgalgjmhdbncbabGreat
