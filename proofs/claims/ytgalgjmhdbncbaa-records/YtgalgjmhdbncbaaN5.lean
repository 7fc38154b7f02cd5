import Derived.Test.YtgalgjmhdbncbaaN4
namespace Go.Proofs.Ytgalgjmhdbncbaa
open Go.RowKit

/-! ### the bytes of a text, in memory -/
def By (w : World) (g n : Nat) (f : Nat → UInt8) : Prop := g < w.heap.size ∧ ∀ j, j < n → w.cell? ⟨g, j, none⟩ = some (.int .u8 (f j).toNat) ∧ w.frozen? ⟨g, j, none⟩ = false
theorem By.keep {w w1 : World} {g n B : Nat} {f : Nat → UInt8} (h : By w g n f) (hb : Below B w w1) (hg : g < B) : By w1 g n f := by
  have h1 := h.1
  have h2 := hb.size
  refine ⟨?_, fun j hj => ?_⟩
  · have := (hb.mono hg).size
    have e := hb.block g hg
    have : w1.heap[g]? = some (w.heap[g]) := by rw [e]; simp [h1]
    rw [Array.getElem?_eq_some_iff] at this
    exact this.1
  · rw [hb.cell (p := ⟨g, j, none⟩) hg, hb.frozen (p := ⟨g, j, none⟩) hg]
    exact h.2 j hj
theorem By.other {w : World} {g n m o : Nat} {v : Value} {f : Nat → UInt8} (h : By w g n f) (hm : g ≠ m) : By (w.setCell ⟨m, o, none⟩ v) g n f :=
  ⟨by simpa using h.1, fun j hj => by
    rw [World.cell?_setCell_other (w := w) (v := v) (a := ⟨m, o, none⟩) (b := ⟨g, j, none⟩) (fun e => hm (congrArg Addr.block e).symm), World.frozen?_setCell]
    exact h.2 j hj⟩
theorem By.set {w : World} {g n k : Nat} {f : Nat → UInt8} (h : By w g n f) (hk : k < n) (x : UInt8) : By (w.setCell ⟨g, k, none⟩ (.int .u8 x.toNat)) g n (fun j => if j = k then x else f j) :=
  ⟨by simpa using h.1, fun j hj => by
    rw [World.frozen?_setCell]
    refine ⟨?_, (h.2 j hj).2⟩
    dsimp only
    by_cases e : j = k
    · subst e
      rw [if_pos rfl, World.cell?_setCell_same _ _ _ (h.2 j hj).1]
    · rw [if_neg e, World.cell?_setCell_other w ⟨g, k, none⟩ ⟨g, j, none⟩ _ (fun e' => e (congrArg Addr.off e').symm)]
      exact (h.2 j hj).1⟩
theorem By.drew {w : World} {g n : Nat} {f : Nat → UInt8} (h : By w g n f) : By w.drew g n f := h
theorem By.alloc {w : World} {g n : Nat} {f : Nat → UInt8} (h : By w g n f) (o : Obj) : By (w.alloc o) g n f := h.keep ((Below.refl w.heap.size w).alloc (Nat.le_refl _) o) h.1
theorem By.congr {w : World} {g n : Nat} {f f' : Nat → UInt8} (h : By w g n f) (e : ∀ j, j < n → f j = f' j) : By w g n f' := ⟨h.1, fun j hj => by rw [← e j hj]; exact h.2 j hj⟩
theorem By.chg {w w' : World} {g n k : Nat} {f : Nat → UInt8} (h : By w k n f) (hc : Chg g w w') (hk : k ≠ g) : By w' k n f := by
  have e := hc.block k hk
  refine ⟨by rw [hc.size]; exact h.1, fun j hj => ?_⟩
  have e1 : w'.cell? ⟨k, j, none⟩ = w.cell? ⟨k, j, none⟩ := by simp only [World.cell?, e]
  have e2 : w'.frozen? ⟨k, j, none⟩ = w.frozen? ⟨k, j, none⟩ := by simp only [World.frozen?, e]
  rw [e1, e2]
  exact h.2 j hj

/-- a text made a slice of bytes -/
theorem bs_run (s : ByteArray) (w : World) : ∃ cap o, s.size ≤ cap ∧ Sem.run Try.prog (convert 9 31 (.string s)) w = .ok (.slice (some ⟨w.heap.size, 0, none⟩) s.size cap) (w.drew.alloc o) ∧ By (w.drew.alloc o) w.heap.size s.size (sf s) := by
  have h := run_bytes_of_string (P := Try.prog) w 9 31 5 s Try.underlying9 Try.underlying31 Try.underlying5
  have hge := grownCap_ge w s.size 0 5
  refine ⟨_, _, hge, h, ?_⟩
  generalize grownCap w s.size 0 5 = c at *
  have hz : (bytesRow s c).size = c := by
    have : s.data.size = s.size := rfl
    simp [bytesRow]; omega
  rw [hz]
  have hh : (w.drew.alloc (.cells (bytesRow s c) 5 (c, c + 1))).heap[w.heap.size]? = some (.cells (bytesRow s c) 5 (c, c + 1)) := heap_of_new w.drew _ _ rfl
  refine ⟨by simp, fun j hj => ⟨?_, ?_⟩⟩
  · rw [cell_of_row _ _ j _ _ _ hh]
    have hj' : j < s.data.size := hj
    simp only [bytesRow, sf]
    rw [Array.getElem?_append, if_pos (by simpa using hj')]
    simp [Array.getElem?_eq_getElem hj']
  · refine (World.frozen?_alloc_mark w.drew (bytesRow s c) 5 c (c + 1) j).trans ?_
    simp
    omega
theorem conv_by (w : World) (g n cap : Nat) (f : Nat → UInt8) (h : By w g n f) : (convert 31 9 (.slice (some ⟨g, 0, none⟩) n cap)).run Try.prog w = .ok (.string (str n f)) w := by
  have := run_convert_bytes_back (P := Try.prog) w 31 9 5 ⟨g, 0, none⟩ cap ((List.range n).map f) Try.underlying31 Try.underlying5 Try.underlying9 (fun j hj => by
    have hj' : j < n := by simpa using hj
    have hadd : (⟨g, 0, none⟩ : Addr).add j = ⟨g, j, none⟩ := by unfold Addr.add; split <;> simp_all
    rw [hadd, (h.2 j hj').1]
    simp)
  simpa [str] using this
end Go.Proofs.Ytgalgjmhdbncbaa
