import Derived.Test.YtgalgjmhdbncbaaA1
namespace Go.Proofs.Ytgalgjmhdbncbaa
open Go.RowKit

/-- n cells, by a function -/
def arr (n : Nat) (V : Nat → Value) : Array Value := ((List.range n).map V).toArray
theorem arr_size (n : Nat) (V : Nat → Value) : (arr n V).size = n := by simp [arr]
theorem arr_get (n : Nat) (V : Nat → Value) (j : Nat) (h : j < n) : (arr n V)[j]? = some (V j) := by simp [arr, h]
theorem arr_congr {n : Nat} {V V' : Nat → Value} (h : ∀ j, j < n → V j = V' j) : arr n V = arr n V' := by
  unfold arr
  congr 1
  exact List.map_congr_left (fun j hj => h j (by simpa using hj))
theorem arr_set (n : Nat) (V : Nat → Value) (k : Nat) (v : Value) : (arr n V).setIfInBounds k v = arr n (fun j => if j = k then v else V j) := by
  apply Array.ext
  · simp [arr]
  · intro i h1 h2
    have h3 : i < n := by simpa [arr_size] using h2
    rw [Array.getElem_setIfInBounds (by simpa [arr_size] using h3)]
    simp [arr, eq_comm]

def by8 (f : Nat → UInt8) (j : Nat) : Value := .int .u8 ((f j).toNat : Int)
theorem u8_xor_b (a b : UInt8) : bits .xor .u8 (a.toNat : Int) (b.toNat : Int) = ((a ^^^ b).toNat : Int) := by
  rw [u8_xor_nat _ _ a.toNat_lt b.toNat_lt, UInt8.toNat_xor]

/-- a row of cells in memory -/
def Row (w : World) (g n : Nat) (t : TypeId) (V : Nat → Value) : Prop := w.heap[g]? = some (.cells (arr n V) t (0, 0))
theorem Row.cell {w : World} {g n : Nat} {t : TypeId} {V : Nat → Value} (h : Row w g n t V) (j : Nat) (hj : j < n) : w.cell? ⟨g, j, none⟩ = some (V j) := by
  rw [cell_of_row _ _ j _ _ _ h, arr_get n V j hj]
theorem Row.frozen {w : World} {g n : Nat} {t : TypeId} {V : Nat → Value} (h : Row w g n t V) (j : Nat) : w.frozen? ⟨g, j, none⟩ = false := frozen_of_row _ _ j _ _ h
theorem Row.lt {w : World} {g n : Nat} {t : TypeId} {V : Nat → Value} (h : Row w g n t V) : g < w.heap.size := by
  unfold Row at h
  rw [Array.getElem?_eq_some_iff] at h
  exact h.1
theorem Row.set {w : World} {g n : Nat} {t : TypeId} {V : Nat → Value} (h : Row w g n t V) (k : Nat) (v : Value) : Row (w.setCell ⟨g, k, none⟩ v) g n t (fun j => if j = k then v else V j) := by
  have := heap_setCell_same w g k _ t v h
  rw [arr_set] at this
  exact this
theorem Row.other {w : World} {g n : Nat} {t : TypeId} {V : Nat → Value} (h : Row w g n t V) {g' k : Nat} {v : Value} (hg : g ≠ g') : Row (w.setCell ⟨g', k, none⟩ v) g n t V := by
  unfold Row
  rw [heap_skip _ _ _ _ _ hg]; exact h
theorem Row.keep {w w1 : World} {g n B : Nat} {t : TypeId} {V : Nat → Value} (h : Row w g n t V) (hb : Below B w w1) (hg : g < B) : Row w1 g n t V := by
  unfold Row
  rw [hb.block _ hg]; exact h
theorem Row.congr {w : World} {g n : Nat} {t : TypeId} {V V' : Nat → Value} (h : Row w g n t V) (hV : ∀ j, j < n → V j = V' j) : Row w g n t V' := by
  unfold Row
  rw [← arr_congr hV]; exact h
theorem Row.alloc {w : World} {g n : Nat} {t : TypeId} {V : Nat → Value} (h : Row w g n t V) (o : Obj) : Row (w.alloc o) g n t V := by
  unfold Row
  rw [Below.heap_alloc w o g h.lt]; exact h
theorem Row.new (w : World) (n : Nat) (t : TypeId) (V : Nat → Value) (g : Nat) (hg : g = w.heap.size) : Row (w.alloc (.cells (arr n V) t)) g n t V := heap_of_new _ _ _ hg
theorem Row.drew {w : World} {g n : Nat} {t : TypeId} {V : Nat → Value} (h : Row w g n t V) : Row w.drew g n t V := h

theorem Row.setRow {w : World} {g n : Nat} {t : TypeId} {V V' : Nat → Value} (h : Row w g n t V) : Row (w.setRow g (arr n V')) g n t V' := setRow_heap w g _ _ t _ h
theorem Row.setRow_other {w : World} {g n g' : Nat} {cs : Array Value} {t : TypeId} {V : Nat → Value} (h : Row w g n t V) (hg : g ≠ g') : Row (w.setRow g' cs) g n t V := by
  unfold Row
  rw [Go.setRow_other w g' g cs hg]; exact h
theorem Below.setRow {B : Nat} {a w : World} (h : Below B a w) {g : Nat} (hg : B ≤ g) (cs : Array Value) : Below B a (w.setRow g cs) :=
  h.trans ⟨rfl, rfl, rfl, by simp, fun k hk => Go.setRow_other w g k cs (by omega)⟩

def z8 : Nat → Value := by8 fun _ => 0
theorem info40 : (Try.prog.info? 53).map (·.size) = some 16 := by kernel_rfl
theorem one8 (n : Nat) (f : Nat → UInt8) : (arr n (by8 f)).all (·.oneCell') = true := by simp [arr, by8, Value.oneCell']

theorem ld40 {ops : Array Oper} {rest : List Oper} {o : Oper} {a : Act} {w : World} {Q : Exit → Act → World → Prop} (hgd : o.guard = none) (x : Operand) (ho : o.op = .load 53 x)
    (g : Nat) (hx : a.eval x = .pointer (some ⟨g, 0, none⟩)) (V : Nat → Value) (hg : Row w g 16 53 V)
    (h : wpList Try.prog ops Q rest (a.put o.dst (.agg (arr 16 V))) w) : wpList Try.prog ops Q (o :: rest) a w :=
  wpList_load_row hgd 53 x ho g hx 53 _ (0, 0) _ hg Try.underlying53 rfl (by rw [arr_size]; exact info40) h
theorem st40 {ops : Array Oper} {rest : List Oper} {o : Oper} {a : Act} {w : World} {Q : Exit → Act → World → Prop} (hgd : o.guard = none) (x y : Operand) (ho : o.op = .store 53 x y)
    (g : Nat) (f : Nat → UInt8) (hx : a.eval x = .pointer (some ⟨g, 0, none⟩)) (hy : a.eval y = .agg (arr 16 (by8 f))) (V : Nat → Value) (hg : Row w g 16 53 V)
    (h : wpList Try.prog ops Q rest (a.put o.dst undef) (w.setRow g (arr 16 (by8 f)))) : wpList Try.prog ops Q (o :: rest) a w :=
  wpList_store_row hgd 53 x y ho g _ hx hy 53 _ hg (by rw [arr_size]; exact info40) (by simp [arr_size]) (one8 16 f) h
theorem res40 {fn : Func} {p : Tmp} (h : fn.results = #[.cell p 53]) (tmps : Array Value) (w : World) (g : Nat) (V : Nat → Value)
    (hp : tmps.getD p undef = .pointer (some ⟨g, 0, none⟩)) (hg : Row w g 16 53 V) : (results fn tmps).run Try.prog w = .ok (.agg (arr 16 V)) w :=
  results_cell_row h tmps w g 53 _ (0, 0) _ hp hg Try.underlying53 rfl (by rw [arr_size]; exact info40)
theorem Row.lit (w : World) (n : Nat) (t : TypeId) (V : Nat → Value) (cs : Array Value) (g : Nat) (hg : g = w.heap.size) (hc : cs = arr n V) : Row (w.alloc (.cells cs t)) g n t V := by
  subst hc; exact Row.new _ _ _ _ _ hg

set_option maxHeartbeats 400000 in
theorem bxor_any (f g : Nat → UInt8) (w : World) :
    Calls Try.prog 59 #[.agg (arr 16 (by8 f)), .agg (arr 16 (by8 g))] w fun e w' =>
      e = .returned (.agg (arr 16 (by8 fun j => f j ^^^ g j))) ∧ Below w.heap.size w w' := by
  go_enter Try.func59, Try.ntmps59
  go_wp2
  go_loopw [6] (fun i wr => ∃ k : Nat, k ≤ 16 ∧ i = .int .i64 k ∧ Row wr w.heap.size 16 53 (by8 fun j => if j < k then f j ^^^ g j else f j) ∧ Row wr (w.heap.size + 1) 16 53 (by8 g) ∧
     Row wr (w.heap.size + 1 + 1) 16 53 z8 ∧ Below w.heap.size w wr) (fun i _ => 16 - (intOf i).toNat)
  case atStart =>
    refine ⟨0, by omega, rfl, ?_, ?_, Row.lit _ _ _ _ _ _ (by simp) rfl, ?_⟩
    · exact ((Row.new _ _ _ _ _ rfl).alloc _).alloc _
    · exact (Row.new _ _ _ _ _ (by simp)).alloc _
    · exact ((((Below.refl _ _).alloc (Nat.le_refl _) _).alloc (by simp) _).alloc (by simp; omega) _)
  case round =>
    obtain ⟨k, hk, rfl, r0, r1, r2, hB⟩ := hrel
    by_cases hlt : k < 16
    · have c0 := r0.cell k hlt
      have c1 := r1.cell k hlt
      have f0 := r0.frozen k
      simp only [by8, Nat.lt_irrefl, if_false] at c0 c1
      have hx := u8_xor_b (f k) (g k)
      go_wp2
      go_region
      go_wp2
      go_roundw
      case rel =>
        refine ⟨k + 1, by omega, by go_num, ((r0.set k _).congr ?_).drew, (r1.other (by omega)).drew, (r2.other (by omega)).drew, (hB.setCell (by simp) _).drew⟩
        intro j hj
        by_cases hjk : j = k
        · subst hjk; simp [by8]
        · simp [by8, hjk, show (j < k + 1) = (j < k) from by apply propext; omega]
      case measure => simp [intOf]; omega
    · have hk16 : k = 16 := by omega
      subst hk16
      have r0 : Row wr w.heap.size 16 53 (by8 fun j => f j ^^^ g j) := r0.congr (fun j hj => by simp [by8, hj])
      go_wp2_with (first | (refine ld40 rfl _ rfl _ rfl _ r0 ?_) | (refine st40 rfl _ _ rfl _ _ rfl rfl _ r2 ?_))
      refine bodyPost_ret (res40 Try.results59 _ _ (w.heap.size + 1 + 1) _ rfl r2.setRow) rfl ⟨rfl, ?_⟩
      exact Below.setRow hB (by omega) _
end Go.Proofs.Ytgalgjmhdbncbaa
