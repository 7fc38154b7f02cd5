import Derived.Deep.RegionHeld
import Derived.KernelRfl
import Derived.WalkKit
import Derived.Test.YtgalgjmhdbncbaaGreatRows
import Derived.WalkSpells
import Derived.WalkLawsBesides
import Derived.Laws.BitsAllLaws
namespace Go.Proofs.YtgalgjmhdbncbaaGreat
theorem tk {P : Program} {md : Region.Mode} {ops : Array Oper} {Q : Exit → Act → World → Prop} {S : World → Prop} {oi : Oper} {fuel : Nat} {listed : Array Bool} {a : Act} {w : World} (i : Nat) (v : Value)
    (hy : ∀ w, S w → (execOp a.eval oi).run P w = .ok (.value v) w) (h : wpAnyH P md ops Q S fuel (listed.setIfInBounds i true) (a.put oi.dst v) w)
    (hi : ops[i]? = some oi := by rfl) (hs : Region.noSelect ops = true := by kernel_rfl) (hf : Region.free md ops listed i = true := by kernel_rfl) (hr : (Region.ready md ops listed).contains i = true := by kernel_rfl)
    (hQ : ∀ c a w, Q (.panic c) (a.put oi.dst v) w → Q (.panic c) a w := by exact fun _ _ _ h => h) (hw : Region.wanted oi (yielded ops a.tmps) = true := by rfl) (hS : S w := by assumption) : wpAnyH P md ops Q S (fuel + 1) listed a w :=
  wpAnyH_take hi hs hf hr hQ (Or.inl ⟨hw, hy⟩) hS h
theorem tp {P : Program} {md : Region.Mode} {ops : Array Oper} {Q : Exit → Act → World → Prop} {S : World → Prop} {oi : Oper} {fuel : Nat} {listed : Array Bool} {a : Act} {w : World} (i : Nat) (v : Value)
    (h : wpAnyH P md ops Q S fuel (listed.setIfInBounds i true) (a.put oi.dst v) w)
    (hi : ops[i]? = some oi := by rfl) (hy : ∀ w, S w → (execOp a.eval oi).run P w = .ok (.value v) w := by intro W' hW; go_simp; try with_reducible rfl) (hs : Region.noSelect ops = true := by kernel_rfl) (hf : Region.free md ops listed i = true := by kernel_rfl) (hr : (Region.ready md ops listed).contains i = true := by kernel_rfl)
    (hQ : ∀ c a w, Q (.panic c) (a.put oi.dst v) w → Q (.panic c) a w := by exact fun _ _ _ h => h) (hw : Region.wanted oi (yielded ops a.tmps) = true := by rfl) (hS : S w := by assumption) : wpAnyH P md ops Q S (fuel + 1) listed a w :=
  wpAnyH_take hi hs hf hr hQ (Or.inl ⟨hw, hy⟩) hS h
theorem nz {P : Program} {md : Region.Mode} {ops : Array Oper} {Q : Exit → Act → World → Prop} {S : World → Prop} {fuel : Nat} {listed listed' : Array Bool} {a a' : Act} {w : World} (h : wpAnyH P md ops Q S fuel listed' a' w)
    (ha : a = a' := by (try simp only [Act.put, List.setIfInBounds_toArray, List.set_cons_zero, List.set_cons_succ, List.getElem_toArray, List.getElem_cons_zero, List.getElem_cons_succ]); with_reducible rfl)
    (hl : listed = listed' := by (try simp only [List.setIfInBounds_toArray, List.set_cons_zero, List.set_cons_succ]); with_reducible rfl) : wpAnyH P md ops Q S fuel listed a w := by
  subst ha hl
  exact h
end Go.Proofs.YtgalgjmhdbncbaaGreat
namespace Go.Proofs.YtgalgjmhdbncbaaGreat
open Go.RowKit

theorem bcell {W w1 : World} {n : Nat} (hb : Below n W w1) : (∀ b o, b < n → w1.cell? ⟨b, o, none⟩ = W.cell? ⟨b, o, none⟩) ∧ (∀ b o, b < n → w1.frozen? ⟨b, o, none⟩ = W.frozen? ⟨b, o, none⟩) :=
  ⟨fun b o h => hb.cell (p := ⟨b, o, none⟩) h, fun b o h => hb.frozen (p := ⟨b, o, none⟩) h⟩

theorem u64_xor_bv (a b : BitVec 64) : bits .xor .u64 (a.toNat : Int) (b.toNat : Int) = ((a ^^^ b).toNat : Int) := by
  rw [u64_xor_nat _ _ a.isLt b.isLt, BitVec.toNat_xor]
theorem u64_or_bv (a b : BitVec 64) : bits .or .u64 (a.toNat : Int) (b.toNat : Int) = ((a ||| b).toNat : Int) := by
  rw [u64_or_nat _ _ a.isLt b.isLt, BitVec.toNat_or]
theorem u64_and_bv (a b : BitVec 64) : bits .and .u64 (a.toNat : Int) (b.toNat : Int) = ((a &&& b).toNat : Int) := by
  rw [u64_and_nat _ _ a.isLt b.isLt, BitVec.toNat_and]

def txH (a b : BitVec 64) : BitVec 64 := if b.getLsbD 0 then (a >>> 1) ^^^ 16212958658533785600#64 else a >>> 1
def txL (a b : BitVec 64) : BitVec 64 := (a <<< 63) ||| (b >>> 1)

theorem half_bv (a : BitVec 64) : (a.toNat : Int) / (2 : Int) = ((a >>> 1).toNat : Int) := by
  rw [BitVec.toNat_ushiftRight, Nat.shiftRight_eq_div_pow]; rfl
theorem up63_bv (a : BitVec 64) : IntKind.u64.wrap ((a.toNat : Int) * 9223372036854775808) = ((a <<< 63).toNat : Int) := by
  rw [IntKind.wrap_u64, BitVec.toNat_shiftLeft, Nat.shiftLeft_eq]; rfl
theorem low_bv (b : BitVec 64) : (bits .and .u64 (b.toNat : Int) 1 == 1) = b.getLsbD 0 := by
  have h : bits .and .u64 (b.toNat : Int) ((1 : Nat) : Int) = ((b.toNat &&& 1 : Nat) : Int) := u64_and_nat _ _ b.isLt (by decide)
  rw [show ((1 : Nat) : Int) = 1 from rfl] at h
  rw [h, nat_mask1]
  simp only [BitVec.getLsbD, Nat.testBit_zero]
  rcases Nat.mod_two_eq_zero_or_one b.toNat with h | h <;> rw [h] <;> rfl

theorem plus_any (a b c d : Int) (w : World) :
    Calls Tryz.prog 160 #[.agg #[.int .u64 a, .int .u64 b], .agg #[.int .u64 c, .int .u64 d]] w fun e w' =>
      e = .returned (.agg #[.int .u64 (bits .xor .u64 a c), .int .u64 (bits .xor .u64 b d)]) ∧ Below w.heap.size w w' := by
  go_enter Tryz.func160, Tryz.ntmps160
  go_wp2
  refine bodyPost_ret (v := .agg #[.int .u64 (bits .xor .u64 a c), .int .u64 (bits .xor .u64 b d)]) (by simp [results, Tryz.results160, go_sem]) rfl ⟨rfl, ?_⟩
  exact ((((Below.refl _ _).alloc (Nat.le_refl _) _).alloc (by simp) _).alloc (by simp; omega) _)

theorem plus_bv (a b c d : BitVec 64) (w : World) :
    Calls Tryz.prog 160 #[.agg #[.int .u64 a.toNat, .int .u64 b.toNat], .agg #[.int .u64 c.toNat, .int .u64 d.toNat]] w fun e w' =>
      e = .returned (.agg #[.int .u64 (a ^^^ c).toNat, .int .u64 (b ^^^ d).toNat]) ∧ Below w.heap.size w w' := by
  have h := plus_any a.toNat b.toNat c.toNat d.toNat w
  rw [u64_xor_bv, u64_xor_bv] at h
  exact h

set_option maxHeartbeats 400000 in
theorem timesX_any (a b : Int) (w : World) :
    Calls Tryz.prog 161 #[.agg #[.int .u64 a, .int .u64 b]] w fun e w' => e = .returned (.agg #[.int .u64 (if (bits .and .u64 b 1 == 1) = true then bits .xor .u64 (a / 2) 16212958658533785600 else a / 2),
      .int .u64 (bits .or .u64 (IntKind.u64.wrap (a * 9223372036854775808)) (b / 2))]) ∧ Below w.heap.size w w' := by
  by_cases hb : (bits .and .u64 b 1 == 1) = true
  · rw [if_pos hb]
    go_enter Tryz.func161, Tryz.ntmps161
    go_wp2
    refine bodyPost_ret (v := .agg #[.int .u64 (bits .xor .u64 (a / 2) 16212958658533785600), .int .u64 (bits .or .u64 (IntKind.u64.wrap (a * 9223372036854775808)) (b / 2))]) (by simp [results, Tryz.results161, go_sem]) rfl ⟨rfl, ?_⟩
    exact ((((Below.refl _ _).alloc (Nat.le_refl _) _).alloc (by simp) _).alloc (by simp; omega) _)
  · rw [if_neg hb]
    have hb : (bits .and .u64 b 1 == 1) = false := by simpa using hb
    go_enter Tryz.func161, Tryz.ntmps161
    go_wp2
    refine bodyPost_ret (v := .agg #[.int .u64 (a / 2), .int .u64 (bits .or .u64 (IntKind.u64.wrap (a * 9223372036854775808)) (b / 2))]) (by simp [results, Tryz.results161, go_sem]) rfl ⟨rfl, ?_⟩
    exact ((((Below.refl _ _).alloc (Nat.le_refl _) _).alloc (by simp) _).alloc (by simp; omega) _)

theorem xorK_bv (a : BitVec 64) : bits .xor .u64 (a.toNat : Int) 16212958658533785600 = ((a ^^^ 16212958658533785600#64).toNat : Int) :=
  u64_xor_bv a 16212958658533785600#64

theorem timesX_bv (a b : BitVec 64) (w : World) :
    Calls Tryz.prog 161 #[.agg #[.int .u64 a.toNat, .int .u64 b.toNat]] w fun e w' => e = .returned (.agg #[.int .u64 (txH a b).toNat, .int .u64 (txL a b).toNat]) ∧ Below w.heap.size w w' := by
  have h := timesX_any a.toNat b.toNat w
  rw [low_bv, half_bv, half_bv, up63_bv, u64_or_bv, xorK_bv] at h
  have e : (if b.getLsbD 0 = true then (((a >>> 1 ^^^ 16212958658533785600#64).toNat : Nat) : Int) else ((a >>> 1).toNat : Int)) = ((txH a b).toNat : Int) := by
    unfold txH; split <;> rfl
  rw [e] at h
  exact h

structure St where
  sH : BitVec 64
  sL : BitVec 64
  qH : BitVec 64
  qL : BitVec 64

def stp (bit : Bool) (s : St) : St :=
  ⟨if bit then s.sH ^^^ s.qH else s.sH, if bit then s.sL ^^^ s.qL else s.sL, txH s.qH s.qL, txL s.qH s.qL⟩
def runW (b : BitVec 64) : Nat → St → St
  | 0, s => s
  | k + 1, s => stp (b.getLsbD (63 - k)) (runW b k s)
def runT (a b : BitVec 64) (s : St) (k : Nat) : St := if k = 0 then s else if k = 1 then runW a 64 s else runW b 64 (runW a 64 s)

def Hp (n : Nat) (s : St) (w : World) : Prop :=
  w.heap[n + 1]? = some (.cells #[.int .u64 s.qH.toNat, .int .u64 s.qL.toNat] 224 (0, 0)) ∧ w.heap[n + 1 + 1 + 1]? = some (.cells #[.int .u64 s.sH.toNat, .int .u64 s.sL.toNat] 224 (0, 0)) ∧
  w.heap[n + 1 + 1]? = some (.cells #[.int .u64 0, .int .u64 0] 224 (0, 0))

theorem heap_of_new (w : World) (o : Obj) (n : Nat) (h : n = w.heap.size) : (w.alloc o).heap[n]? = some o := by subst h; exact heap_alloc_new w o
theorem heap_of_old (w : World) (o : Obj) (n : Nat) (x : Option Obj) (h : n < w.heap.size) (hx : w.heap[n]? = x) : (w.alloc o).heap[n]? = x := by rw [Below.heap_alloc w o n h]; exact hx
theorem heap_two (w : World) (g : Nat) (x y v v' : Value) (t : TypeId) (h : w.heap[g]? = some (.cells #[x, y] t (0, 0))) :
    ((w.setCell ⟨g, 0, none⟩ v).setCell ⟨g, 1, none⟩ v').heap[g]? = some (.cells #[v, v'] t (0, 0)) := by
  have h1 := heap_setCell_same w g 0 _ t v h
  have h2 := heap_setCell_same _ g 1 _ t v' h1
  simpa using h2
theorem Hp.keep {n : Nat} {s : St} {w w1 : World} (h : Hp n s w) (hb : Below w.heap.size w w1) : Hp n s w1 := by
  have h3 : n + 1 + 1 + 1 < w.heap.size := by
    have := h.2.1
    rw [Array.getElem?_eq_some_iff] at this
    exact this.1
  exact ⟨by rw [hb.block _ (by omega)]; exact h.1, by rw [hb.block _ (by omega)]; exact h.2.1, by rw [hb.block _ (by omega)]; exact h.2.2⟩
theorem heap_skip (w : World) (g k : Nat) (o : Nat) (v : Value) (h : k ≠ g) : (w.setCell ⟨g, o, none⟩ v).heap[k]? = w.heap[k]? := heap_setCell_other w ⟨g, o, none⟩ k v h

theorem Hp.facts {n : Nat} {s : St} {w : World} (h : Hp n s w) :
    w.cell? ⟨n + 1, 0, none⟩ = some (.int .u64 s.qH.toNat) ∧ w.cell? ⟨n + 1, 1, none⟩ = some (.int .u64 s.qL.toNat) ∧
    w.cell? ⟨n + 1 + 1 + 1, 0, none⟩ = some (.int .u64 s.sH.toNat) ∧ w.cell? ⟨n + 1 + 1 + 1, 1, none⟩ = some (.int .u64 s.sL.toNat) ∧
    (∀ j, w.frozen? ⟨n + 1, j, none⟩ = false) ∧ (∀ j, w.frozen? ⟨n + 1 + 1 + 1, j, none⟩ = false) ∧ n + 1 + 1 + 1 < w.heap.size := by
  refine ⟨?_, ?_, ?_, ?_, fun j => frozen_of_row _ _ j _ _ h.1, fun j => frozen_of_row _ _ j _ _ h.2.1, ?_⟩
  · rw [cell_of_row _ _ 0 _ _ _ h.1]; rfl
  · rw [cell_of_row _ _ 1 _ _ _ h.1]; rfl
  · rw [cell_of_row _ _ 0 _ _ _ h.2.1]; rfl
  · rw [cell_of_row _ _ 1 _ _ _ h.2.1]; rfl
  · have := h.2.1
    rw [Array.getElem?_eq_some_iff] at this
    exact this.1

def wordAt (a b : BitVec 64) (k : Nat) : BitVec 64 := if k = 0 then a else b
theorem runT_succ (a b : BitVec 64) (s : St) (k : Nat) (h : k < 2) : runT a b s (k + 1) = runW (wordAt a b k) 64 (runT a b s k) := by
  match k, h with
  | 0, _ => rfl
  | 1, _ => rfl

theorem idx2_0 (a b : BitVec 64) (w : World) : (Instr.index 230 (.agg #[.int .u64 a.toNat, .int .u64 b.toNat]) (.int .i64 0)).run Tryz.prog w = .ok (.int .u64 a.toNat) w := by kernel_rfl
theorem idx2_1 (a b : BitVec 64) (w : World) : (Instr.index 230 (.agg #[.int .u64 a.toNat, .int .u64 b.toNat]) (.int .i64 1)).run Tryz.prog w = .ok (.int .u64 b.toNat) w := by kernel_rfl
theorem idx2 (a b : BitVec 64) (k : Nat) (h : k < 2) (w : World) : (Instr.index 230 (.agg #[.int .u64 a.toNat, .int .u64 b.toNat]) (.int .i64 k)).run Tryz.prog w = .ok (.int .u64 (wordAt a b k).toNat) w := by
  match k, h with
  | 0, _ => exact idx2_0 a b w
  | 1, _ => exact idx2_1 a b w
theorem bit_bv (x : BitVec 64) (j : Nat) : (bits .and .u64 ((x.toNat : Int) / 2 ^ (63 - j)) 1 == 1) = x.getLsbD (63 - j) := by
  have e : ((x.toNat : Int) / 2 ^ (63 - j)) = ((x >>> (63 - j)).toNat : Int) := by
    rw [BitVec.toNat_ushiftRight, Nat.shiftRight_eq_div_pow]; simp
  rw [e, low_bv]; simp

set_option maxHeartbeats 400000 in
theorem times_any (a b c d : BitVec 64) (w : World) :
    Calls Tryz.prog 155 #[.agg #[.int .u64 a.toNat, .int .u64 b.toNat], .agg #[.int .u64 c.toNat, .int .u64 d.toNat]] w fun e w' =>
      e = .returned (.agg #[.int .u64 (runT a b ⟨0, 0, c, d⟩ 2).sH.toNat, .int .u64 (runT a b ⟨0, 0, c, d⟩ 2).sL.toNat]) ∧ Below w.heap.size w w' := by
  go_enter Tryz.func155, Tryz.ntmps155
  go_wp2
  go_loopw [14] (fun i wr => ∃ k : Nat, k ≤ 2 ∧ i = .int .i64 k ∧ Hp w.heap.size (runT a b ⟨0, 0, c, d⟩ k) wr ∧ Below w.heap.size w wr) (fun i _ => 2 - (intOf i).toNat)
  case atStart =>
    refine ⟨0, by omega, rfl, ⟨?_, ?_, ?_⟩, ?_⟩
    · exact heap_of_old _ _ _ _ (by simp) (heap_of_old _ _ _ _ (by simp) (heap_of_new _ _ _ (by simp)))
    · exact heap_of_new _ _ _ (by simp)
    · exact heap_of_old _ _ _ _ (by simp) (heap_of_new _ _ _ (by simp))
    · exact (((((Below.refl _ _).alloc (Nat.le_refl _) _).alloc (by simp) _).alloc (by simp; omega) _).alloc (by simp; omega) _)
  case round =>
    obtain ⟨k, hk, rfl, hH, hB⟩ := hrel
    by_cases hlt : k < 2
    · have ix : ∀ w, (Instr.index 230 (.agg #[.int .u64 a.toNat, .int .u64 b.toNat]) (.int .i64 k)).run Tryz.prog w = .ok (.int .u64 (wordAt a b k).toNat) w := by
        intro w
        exact idx2 a b k hlt w
      have hd : decide ((k : Int) < 2) = true := by simp; omega
      go_wp2
      go_loopw [8] (fun i wr => ∃ j : Nat, j ≤ 64 ∧ i = .int .i64 (63 - (j : Int)) ∧ Hp w.heap.size (runW (wordAt a b k) j (runT a b ⟨0, 0, c, d⟩ k)) wr ∧ Below w.heap.size w wr) (fun i _ => (intOf i + 1).toNat)
      case atStart => exact ⟨0, by omega, rfl, hH, hB⟩
      case round =>
        obtain ⟨j, hj, rfl, hH1, hB1⟩ := hrel
        obtain ⟨c1, c2, c3, c4, f1, f2, hsz⟩ := hH1.facts
        by_cases hjl : j < 64
        · have hbit := bit_bv (wordAt a b k) j
          have hst : runW (wordAt a b k) (j + 1) (runT a b ⟨0, 0, c, d⟩ k) = stp ((wordAt a b k).getLsbD (63 - j)) (runW (wordAt a b k) j (runT a b ⟨0, 0, c, d⟩ k)) := rfl
          generalize runW (wordAt a b k) j (runT a b ⟨0, 0, c, d⟩ k) = st at *
          cases hg : (wordAt a b k).getLsbD (63 - j)
          · rw [hg] at hbit hst
            have HS : Hid _ := hst
            clear hst hg
            go_wp2_with fail
            refine (timesX_bv _ _ _).mono ?_
            rintro e w1 ⟨rfl, hb1⟩
            have hH2 := hH1.keep hb1
            clear c1 c2 c3 c4 f1 f2
            obtain ⟨c1, c2, c3, c4, f1, f2, hsz2⟩ := hH2.facts
            go_wp2
            go_roundw
            case rel =>
              refine ⟨j + 1, by omega, by go_num, ?_, ?_⟩
              · rw [HS.out]
                exact ⟨heap_two _ _ _ _ _ _ _ hH2.1, by rw [heap_skip _ _ _ _ _ (by omega), heap_skip _ _ _ _ _ (by omega)]; exact hH2.2.1, by rw [heap_skip _ _ _ _ _ (by omega), heap_skip _ _ _ _ _ (by omega)]; exact hH2.2.2⟩
              · exact ((hB1.trans (hb1.mono (by omega))).setCell (by simp) _).setCell (by simp) _
            case measure => simp [intOf]; omega
          · rw [hg] at hbit hst
            have HS : Hid _ := hst
            clear hst hg
            go_wp2_with fail
            refine (plus_bv _ _ _ _ _).mono ?_
            rintro e w1 ⟨rfl, hb1⟩
            have hH2 := hH1.keep hb1
            clear c1 c2 c3 c4 f1 f2
            obtain ⟨c1, c2, c3, c4, f1, f2, hsz2⟩ := hH2.facts
            go_wp2_with fail
            refine (timesX_bv _ _ _).mono ?_
            rintro e w2 ⟨rfl, hb2⟩
            have hH3 : Hp w.heap.size ⟨st.sH ^^^ st.qH, st.sL ^^^ st.qL, st.qH, st.qL⟩ w2 := by
              refine Hp.keep ?_ hb2
              exact ⟨by rw [heap_skip _ _ _ _ _ (by omega), heap_skip _ _ _ _ _ (by omega)]; exact hH2.1, heap_two _ _ _ _ _ _ _ hH2.2.1, by rw [heap_skip _ _ _ _ _ (by omega), heap_skip _ _ _ _ _ (by omega)]; exact hH2.2.2⟩
            clear c1 c2 c3 c4 f1 f2
            obtain ⟨c1, c2, c3, c4, f1, f2, hsz3⟩ := hH3.facts
            go_wp2
            go_roundw
            case rel =>
              refine ⟨j + 1, by omega, by go_num, ?_, ?_⟩
              · rw [HS.out]
                exact ⟨heap_two _ _ _ _ _ _ _ hH3.1, by rw [heap_skip _ _ _ _ _ (by omega), heap_skip _ _ _ _ _ (by omega)]; exact hH3.2.1, by rw [heap_skip _ _ _ _ _ (by omega), heap_skip _ _ _ _ _ (by omega)]; exact hH3.2.2⟩
              · exact (((((hB1.trans (hb1.mono (by omega))).setCell (by simp; omega) _).setCell (by simp; omega) _).trans (hb2.mono (by simp; omega))).setCell (by simp) _).setCell (by simp) _
            case measure => simp [intOf]; omega
        · have hj64 : j = 64 := by omega
          subst hj64
          rw [← runT_succ _ _ _ _ hlt] at hH1
          clear c1 c2 c3 c4 f1 f2
          go_wp2
          go_roundw
          case rel => exact ⟨k + 1, by omega, by go_num, hH1, hB1⟩
          case measure => simp [intOf]; omega
    · have hk2 : k = 2 := by omega
      subst hk2
      obtain ⟨c1, c2, c3, c4, f1, f2, hsz⟩ := hH.facts
      generalize hst : runT a b ⟨0, 0, c, d⟩ 2 = st at *
      have HS : Hid _ := hst
      clear hst
      have c5 : wr.cell? ⟨w.heap.size + 1 + 1, 0, none⟩ = some (.int .u64 0) := by rw [cell_of_row _ _ 0 _ _ _ hH.2.2]; rfl
      have c6 : wr.cell? ⟨w.heap.size + 1 + 1, 1, none⟩ = some (.int .u64 0) := by rw [cell_of_row _ _ 1 _ _ _ hH.2.2]; rfl
      have f5 : ∀ j, wr.frozen? ⟨w.heap.size + 1 + 1, j, none⟩ = false := fun j => frozen_of_row _ _ j _ _ hH.2.2
      go_wp2
      refine bodyPost_ret (v := .agg #[.int .u64 st.sH.toNat, .int .u64 st.sL.toNat]) (results_cell_row Tryz.results155 _ _ (w.heap.size + 1 + 1) 224 _ (0, 0) _ rfl (heap_two _ _ _ _ _ _ _ hH.2.2) Tryz.underlying224 rfl (by kernel_rfl)) rfl ⟨by rw [HS.out], ?_⟩
      exact (hB.setCell (by simp; omega) _).setCell (by simp; omega) _
end Go.Proofs.YtgalgjmhdbncbaaGreat
namespace Go.Proofs.YtgalgjmhdbncbaaGreat
open Go.RowKit

def arr (n : Nat) (V : Nat → Value) : Array Value := ((List.range n).map V).toArray
theorem arr_size (n : Nat) (V : Nat → Value) : (arr n V).size = n := by simp [arr]
theorem arr_get (n : Nat) (V : Nat → Value) (j : Nat) (h : j < n) : (arr n V)[j]? = some (V j) := by simp [arr, h]
theorem arr_congr {n : Nat} {V V' : Nat → Value} (h : ∀ j, j < n → V j = V' j) : arr n V = arr n V' := by
  unfold arr
  congr 1
  exact List.map_congr_left (fun j hj => h j (by simpa using hj))
theorem arr_set (n : Nat) (V : Nat → Value) (k : Nat) (v : Value) : (arr n V).setIfInBounds k v = arr n (fun j => if j = k then v else V j) := by
  apply Array.ext
  · simp [arr]
  · intro i h1 h2
    have h3 : i < n := by simpa [arr_size] using h2
    rw [Array.getElem_setIfInBounds (by simpa [arr_size] using h3)]
    simp [arr, eq_comm]

def by8 (f : Nat → UInt8) (j : Nat) : Value := .int .u8 ((f j).toNat : Int)
theorem u8_xor_b (a b : UInt8) : bits .xor .u8 (a.toNat : Int) (b.toNat : Int) = ((a ^^^ b).toNat : Int) := by
  rw [u8_xor_nat _ _ a.toNat_lt b.toNat_lt, UInt8.toNat_xor]

def Row (w : World) (g n : Nat) (t : TypeId) (V : Nat → Value) : Prop := w.heap[g]? = some (.cells (arr n V) t (0, 0))
theorem Row.cell {w : World} {g n : Nat} {t : TypeId} {V : Nat → Value} (h : Row w g n t V) (j : Nat) (hj : j < n) : w.cell? ⟨g, j, none⟩ = some (V j) := by
  rw [cell_of_row _ _ j _ _ _ h, arr_get n V j hj]
theorem Row.frozen {w : World} {g n : Nat} {t : TypeId} {V : Nat → Value} (h : Row w g n t V) (j : Nat) : w.frozen? ⟨g, j, none⟩ = false := frozen_of_row _ _ j _ _ h
theorem Row.lt {w : World} {g n : Nat} {t : TypeId} {V : Nat → Value} (h : Row w g n t V) : g < w.heap.size := by
  unfold Row at h
  rw [Array.getElem?_eq_some_iff] at h
  exact h.1
theorem Row.set {w : World} {g n : Nat} {t : TypeId} {V : Nat → Value} (h : Row w g n t V) (k : Nat) (v : Value) : Row (w.setCell ⟨g, k, none⟩ v) g n t (fun j => if j = k then v else V j) := by
  have := heap_setCell_same w g k _ t v h
  rw [arr_set] at this
  exact this
theorem Row.other {w : World} {g n : Nat} {t : TypeId} {V : Nat → Value} (h : Row w g n t V) {g' k : Nat} {v : Value} (hg : g ≠ g') : Row (w.setCell ⟨g', k, none⟩ v) g n t V := by
  unfold Row
  rw [heap_skip _ _ _ _ _ hg]; exact h
theorem Row.keep {w w1 : World} {g n B : Nat} {t : TypeId} {V : Nat → Value} (h : Row w g n t V) (hb : Below B w w1) (hg : g < B) : Row w1 g n t V := by
  unfold Row
  rw [hb.block _ hg]; exact h
theorem Row.congr {w : World} {g n : Nat} {t : TypeId} {V V' : Nat → Value} (h : Row w g n t V) (hV : ∀ j, j < n → V j = V' j) : Row w g n t V' := by
  unfold Row
  rw [← arr_congr hV]; exact h
theorem Row.alloc {w : World} {g n : Nat} {t : TypeId} {V : Nat → Value} (h : Row w g n t V) (o : Obj) : Row (w.alloc o) g n t V := by
  unfold Row
  rw [Below.heap_alloc w o g h.lt]; exact h
theorem Row.new (w : World) (n : Nat) (t : TypeId) (V : Nat → Value) (g : Nat) (hg : g = w.heap.size) : Row (w.alloc (.cells (arr n V) t)) g n t V := heap_of_new _ _ _ hg
theorem Row.drew {w : World} {g n : Nat} {t : TypeId} {V : Nat → Value} (h : Row w g n t V) : Row w.drew g n t V := h

theorem Row.setRow {w : World} {g n : Nat} {t : TypeId} {V V' : Nat → Value} (h : Row w g n t V) : Row (w.setRow g (arr n V')) g n t V' := setRow_heap w g _ _ t _ h
theorem Row.setRow_other {w : World} {g n g' : Nat} {cs : Array Value} {t : TypeId} {V : Nat → Value} (h : Row w g n t V) (hg : g ≠ g') : Row (w.setRow g' cs) g n t V := by
  unfold Row
  rw [Go.setRow_other w g' g cs hg]; exact h
theorem Below.setRow {B : Nat} {a w : World} (h : Below B a w) {g : Nat} (hg : B ≤ g) (cs : Array Value) : Below B a (w.setRow g cs) :=
  h.trans ⟨rfl, rfl, rfl, by simp, fun k hk => Go.setRow_other w g k cs (by omega)⟩

def z8 : Nat → Value := by8 fun _ => 0
theorem info40 : (Tryz.prog.info? 145).map (·.size) = some 16 := by kernel_rfl
theorem one8 (n : Nat) (f : Nat → UInt8) : (arr n (by8 f)).all (·.oneCell') = true := by simp [arr, by8, Value.oneCell']

theorem ld40 {ops : Array Oper} {rest : List Oper} {o : Oper} {a : Act} {w : World} {Q : Exit → Act → World → Prop} (hgd : o.guard = none) (x : Operand) (ho : o.op = .load 145 x)
    (g : Nat) (hx : a.eval x = .pointer (some ⟨g, 0, none⟩)) (V : Nat → Value) (hg : Row w g 16 145 V)
    (h : wpList Tryz.prog ops Q rest (a.put o.dst (.agg (arr 16 V))) w) : wpList Tryz.prog ops Q (o :: rest) a w :=
  wpList_load_row hgd 145 x ho g hx 145 _ (0, 0) _ hg Tryz.underlying145 rfl (by rw [arr_size]; exact info40) h
theorem st40 {ops : Array Oper} {rest : List Oper} {o : Oper} {a : Act} {w : World} {Q : Exit → Act → World → Prop} (hgd : o.guard = none) (x y : Operand) (ho : o.op = .store 145 x y)
    (g : Nat) (f : Nat → UInt8) (hx : a.eval x = .pointer (some ⟨g, 0, none⟩)) (hy : a.eval y = .agg (arr 16 (by8 f))) (V : Nat → Value) (hg : Row w g 16 145 V)
    (h : wpList Tryz.prog ops Q rest (a.put o.dst undef) (w.setRow g (arr 16 (by8 f)))) : wpList Tryz.prog ops Q (o :: rest) a w :=
  wpList_store_row hgd 145 x y ho g _ hx hy 145 _ hg (by rw [arr_size]; exact info40) (by simp [arr_size]) (one8 16 f) h
theorem res40 {fn : Func} {p : Tmp} (h : fn.results = #[.cell p 145]) (tmps : Array Value) (w : World) (g : Nat) (V : Nat → Value)
    (hp : tmps.getD p undef = .pointer (some ⟨g, 0, none⟩)) (hg : Row w g 16 145 V) : (results fn tmps).run Tryz.prog w = .ok (.agg (arr 16 V)) w :=
  results_cell_row h tmps w g 145 _ (0, 0) _ hp hg Tryz.underlying145 rfl (by rw [arr_size]; exact info40)
theorem Row.lit (w : World) (n : Nat) (t : TypeId) (V : Nat → Value) (cs : Array Value) (g : Nat) (hg : g = w.heap.size) (hc : cs = arr n V) : Row (w.alloc (.cells cs t)) g n t V := by
  subst hc; exact Row.new _ _ _ _ _ hg

set_option maxHeartbeats 400000 in
theorem bxor_any (f g : Nat → UInt8) (w : World) :
    Calls Tryz.prog 135 #[.agg (arr 16 (by8 f)), .agg (arr 16 (by8 g))] w fun e w' =>
      e = .returned (.agg (arr 16 (by8 fun j => f j ^^^ g j))) ∧ Below w.heap.size w w' := by
  go_enter Tryz.func135, Tryz.ntmps135
  go_wp2
  go_loopw [6] (fun i wr => ∃ k : Nat, k ≤ 16 ∧ i = .int .i64 k ∧ Row wr w.heap.size 16 145 (by8 fun j => if j < k then f j ^^^ g j else f j) ∧ Row wr (w.heap.size + 1) 16 145 (by8 g) ∧
     Row wr (w.heap.size + 1 + 1) 16 145 z8 ∧ Below w.heap.size w wr) (fun i _ => 16 - (intOf i).toNat)
  case atStart =>
    refine ⟨0, by omega, rfl, ?_, ?_, Row.lit _ _ _ _ _ _ (by simp) rfl, ?_⟩
    · exact ((Row.new _ _ _ _ _ rfl).alloc _).alloc _
    · exact (Row.new _ _ _ _ _ (by simp)).alloc _
    · exact ((((Below.refl _ _).alloc (Nat.le_refl _) _).alloc (by simp) _).alloc (by simp; omega) _)
  case round =>
    obtain ⟨k, hk, rfl, r0, r1, r2, hB⟩ := hrel
    by_cases hlt : k < 16
    · have c0 := r0.cell k hlt
      have c1 := r1.cell k hlt
      have f0 := r0.frozen k
      simp only [by8, Nat.lt_irrefl, if_false] at c0 c1
      have hx := u8_xor_b (f k) (g k)
      go_wp2
      go_region
      go_wp2
      go_roundw
      case rel =>
        refine ⟨k + 1, by omega, by go_num, ((r0.set k _).congr ?_).drew, (r1.other (by omega)).drew, (r2.other (by omega)).drew, (hB.setCell (by simp) _).drew⟩
        intro j hj
        by_cases hjk : j = k
        · subst hjk; simp [by8]
        · simp [by8, hjk, show (j < k + 1) = (j < k) from by apply propext; omega]
      case measure => simp [intOf]; omega
    · have hk16 : k = 16 := by omega
      subst hk16
      have r0 : Row wr w.heap.size 16 145 (by8 fun j => f j ^^^ g j) := r0.congr (fun j hj => by simp [by8, hj])
      go_wp2_with (first | (refine ld40 rfl _ rfl _ rfl _ r0 ?_) | (refine st40 rfl _ _ rfl _ _ rfl rfl _ r2 ?_))
      refine bodyPost_ret (res40 Tryz.results135 _ _ (w.heap.size + 1 + 1) _ rfl r2.setRow) rfl ⟨rfl, ?_⟩
      exact Below.setRow hB (by omega) _
end Go.Proofs.YtgalgjmhdbncbaaGreat
