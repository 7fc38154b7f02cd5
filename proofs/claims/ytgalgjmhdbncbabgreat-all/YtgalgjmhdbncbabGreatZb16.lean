import Derived.Test.YtgalgjmhdbncbabGreatZb00
import Derived.Test.YtgalgjmhdbncbabGreatZb15
import Derived.Deep.RegionHeld
namespace Go.Proofs.YtgalgjmhdbncbabGreat
open Go.RowKit
attribute [local go_sem ↓] Go.wp_at_zero Go.wp_at_succ

def fO : Nat → Nat | 0 => 1 | 1 => 2 | 2 => 4 | 3 => 5 | 4 => 6 | _ => 7
def fA : Nat → Nat | 0 => 1 | 1 => 2 | 2 => 8 | 3 => 10 | 4 => 11 | _ => 12
def fZ : Nat → Nat | 0 => 2 | 1 => 4 | 2 => 10 | 3 => 11 | 4 => 12 | _ => 14
theorem six {p : Nat → Prop} (h0 : p 0) (h1 : p 1) (h2 : p 2) (h3 : p 3) (h4 : p 4) (h5 : p 5) (k : Nat) (hk : k < 6) : p k := by
  rcases (by omega : k = 0 ∨ k = 1 ∨ k = 2 ∨ k = 3 ∨ k = 4 ∨ k = 5) with rfl | rfl | rfl | rfl | rfl | rfl <;> assumption
theorem fA_fZ (k : Nat) (hk : k < 6) : fA k < fZ k ∧ fZ k ≤ 14 ∧ fZ k ≤ fA k + 2 := by
  revert k
  exact six (by decide) (by decide) (by decide) (by decide) (by decide) (by decide)
def fldF (g : Nat) (j : Nat) : Value := if j % 3 = 0 then .pointer (some ⟨g, fO (j / 3), none⟩) else if j % 3 = 1 then .int .i64 (fA (j / 3)) else .int .i64 (fZ (j / 3))
set_option maxRecDepth 100000 in
set_option maxHeartbeats 4000000 in
theorem fields_any (g : Nat) (w : World) : Calls Tryz.prog 95 #[.pointer (some ⟨g, 0, none⟩)] w fun e w' => e = .returned (.slice (some ⟨w.heap.size, 0, none⟩) 6 6) ∧ Row w' w.heap.size 18 164 (fldF g) ∧ Below w.heap.size w w' := by
  go_enter Tryz.func95, Tryz.ntmps95
  go_wp2_with fail
  go_region
  go_wp2
  all_goals
    go_ret
    refine ⟨rfl, ?_, ((Below.refl _ w).alloc (Nat.le_refl _) _).drew⟩
    exact Row.lit _ _ _ _ _ _ rfl (by kernel_rfl)
theorem fld_at {w : World} {gf g : Nat} (h : Row w gf 18 164 (fldF g)) (k : Nat) (hk : k < 6) : w.cell? ⟨gf, k * 3, none⟩ = some (.pointer (some ⟨g, fO k, none⟩)) ∧ w.cell? ⟨gf, k * 3 + 1, none⟩ = some (.int .i64 (fA k)) ∧ w.cell? ⟨gf, k * 3 + 2, none⟩ = some (.int .i64 (fZ k)) := by
  refine ⟨?_, ?_, ?_⟩
  · rw [h.cell (k * 3) (by omega)]
    unfold fldF
    rw [if_pos (by omega), show k * 3 / 3 = k by omega]
  · rw [h.cell (k * 3 + 1) (by omega)]
    unfold fldF
    rw [if_neg (by omega), if_pos (by omega), show (k * 3 + 1) / 3 = k by omega]
  · rw [h.cell (k * 3 + 2) (by omega)]
    unfold fldF
    rw [if_neg (by omega), if_neg (by omega), show (k * 3 + 2) / 3 = k by omega]

theorem wrapU (n : Nat) (h : n < 18446744073709551616) : IntKind.u64.wrap (n : Int) = (n : Int) := by
  rw [IntKind.wrap_u64]; omega
theorem run_cp (w : World) (ty g off n dLen dCap : Nat) (t : TypeId) (f : Nat → UInt8) (S : ByteArray) (hg : Row w g n t (by8 f)) (hle : S.size ≤ dLen) (hn : off + S.size ≤ n) :
    (Builtin.copy_ #[134, 9] ty #[.slice (some ⟨g, off, none⟩) dLen dCap, .string S]).run Tryz.prog w = .ok (goInt S.size) (w.setRow g (arr n (by8 (cpF f off S)))) := by
  have hrun := Lib.run_copy_row_string (P := Tryz.prog) w 134 9 ty 5 g off dLen dCap S (arr n (by8 f)) t Tryz.underlying134 (by kernel_rfl) hg hle (by simpa [arr_size] using hn)
  have he : ((arr n (by8 f)).toList.take off ++ Lib.byteCells S.data.toList ++ (arr n (by8 f)).toList.drop (off + S.size)).toArray = arr n (by8 (cpF f off S)) := by
    have hl : (Lib.byteCells S.data.toList).length = S.size := by simp [Lib.byteCells]
    have hlen : ((arr n (by8 f)).toList.take off).length = off := by
      have : (arr n (by8 f)).toList.length = n := by simp [arr]
      rw [List.length_take]; omega
    apply Array.ext_getElem?
    intro i
    simp only [List.getElem?_toArray]
    rw [List.append_assoc, List.getElem?_append, hlen]
    by_cases h1 : i < off
    · rw [if_pos h1, List.getElem?_take, if_pos h1, arr_get _ _ _ (by omega)]
      have : (arr n (by8 f)).toList[i]? = some (by8 f i) := by simpa using arr_get n (by8 f) i (by omega)
      have e : cpF f off S i = f i := if_neg (by omega)
      rw [this]
      show some (Value.int .u8 ((f i).toNat : Int)) = some (Value.int .u8 ((cpF f off S i).toNat : Int))
      rw [e]
    · rw [if_neg h1, List.getElem?_append, hl]
      by_cases h2 : i - off < S.size
      · have e : cpF f off S i = sf S (i - off) := if_pos (by omega)
        rw [if_pos h2, byteCells_get S _ h2, arr_get _ _ _ (by omega)]
        show some (Value.int .u8 ((sf S (i - off)).toNat : Int)) = some (Value.int .u8 ((cpF f off S i).toNat : Int))
        rw [e]
      · rw [if_neg h2, List.getElem?_drop, show off + S.size + (i - off - S.size) = i by omega]
        by_cases h3 : i < n
        · rw [arr_get _ _ _ h3]
          have : (arr n (by8 f)).toList[i]? = some (by8 f i) := by simpa using arr_get n (by8 f) i h3
          have e : cpF f off S i = f i := if_neg (by omega)
          rw [this]
          show some (Value.int .u8 ((f i).toNat : Int)) = some (Value.int .u8 ((cpF f off S i).toNat : Int))
          rw [e]
        · simp [arr, h3]
  rw [he] at hrun
  exact hrun
def cv (c : Cl) : Nat → Nat | 0 => c.alg | 1 => c.id | 2 => c.seals | 3 => c.ahead | 4 => c.most | _ => c.res
theorem cv_at {w : World} {g : Nat} {c : Cl} (h : w.heap[g]? = some (.cells (clA c) 100 (0, 0))) : ∀ k, k < 6 → w.cell? ⟨g, fO k, none⟩ = some (.int .i64 (cv c k)) := by
  unfold clA clC at h
  obtain ⟨c0, c1, c2, c3, c4, c5, c6, c7, c8⟩ := cells9 h
  exact six c1 c2 c4 c5 c6 c7
structure ClSm (c : Cl) : Prop where
  alg : c.alg < 256
  id : c.id < 65536
  seals : c.seals < 65536
  ahead : c.ahead < 256
  most : c.most < 256
  res : c.res < 65536
  st : c.st < 256
  fix : c.fix.size = 4
  key : c.key.size ≤ 100
theorem ClOk.sm {c : Cl} (h : ClOk c) : ClSm c := by
  obtain ⟨h1, h2, h3, h4, ⟨⟨a1, a2⟩, ⟨a3, a4⟩, ⟨a5, a6⟩⟩, h6, h7⟩ := h
  exact ⟨by omega, by omega, by omega, by omega, by omega, by omega, by omega, h4, by rw [h7]; split <;> omega⟩
theorem cv_lt (c : Cl) (h : ClSm c) : ∀ k, k < 6 → cv c k < 65536 := by
  obtain ⟨h1, h2, h3, h4, h5, h6, _, _, _⟩ := h
  exact six (by show c.alg < _; omega) (by show c.id < _; omega) (by show c.seals < _; omega) (by show c.ahead < _; omega) (by show c.most < _; omega) (by show c.res < _; omega)
def kT : ByteArray := ⟨#[107]⟩
def rF (c : Cl) : Nat → Nat → UInt8
  | 0 => cpF (cpF (fun _ => 0) 0 kT) 4 c.fix
  | k + 1 => putF (rF c k) (fA k) (fZ k - fA k) (cv c k)
structure TXs (W : World) (g g5 : Nat) (c : Cl) (k : Nat) : Prop where
  cr : W.heap[g]? = some (.cells (clA c) 100 (0, 0))
  f3 : W.heap[g5]? = some (.cells #[.pointer (some ⟨g, fO k, none⟩), .int .i64 (fA k), .int .i64 (fZ k)] 164 (0, 0))
theorem TXs.drew {W : World} {g g5 k : Nat} {c : Cl} (h : TXs W g g5 c k) : TXs W.drew g g5 c k := ⟨h.cr, h.f3⟩
theorem TXs.chg {W W' : World} {g g5 k x : Nat} {c : Cl} (h : TXs W g g5 c k) (hc : Chg x W W') (h1 : g ≠ x) (h2 : g5 ≠ x) : TXs W' g g5 c k := ⟨by rw [hc.block g h1]; exact h.cr, by rw [hc.block g5 h2]; exact h.f3⟩
theorem TXs.three {W : World} {g g5 k : Nat} {c : Cl} (h : TXs W g g5 c k) : W.cell? ⟨g5, 0, none⟩ = some (.pointer (some ⟨g, fO k, none⟩)) ∧ W.cell? ⟨g5, 1, none⟩ = some (.int .i64 (fA k)) ∧ W.cell? ⟨g5, 2, none⟩ = some (.int .i64 (fZ k)) := by
  refine ⟨?_, ?_, ?_⟩
  · rw [cell_of_row _ _ 0 _ _ _ h.f3]; rfl
  · rw [cell_of_row _ _ 1 _ _ _ h.f3]; rfl
  · rw [cell_of_row _ _ 2 _ _ _ h.f3]; rfl
theorem TXs.val {W : World} {g g5 k : Nat} {c : Cl} (h : TXs W g g5 c k) (hk : k < 6) : W.cell? ⟨g, fO k, none⟩ = some (.int .i64 (cv c k)) := cv_at h.cr k hk
structure LT (w W : World) (c : Cl) (k : Nat) : Prop where
  cr : W.heap[w.heap.size]? = some (.cells (clA c) 100 (0, 0))
  run : Row W (w.heap.size + 1) 15 5 (by8 (rF c k))
  fl : Row W (w.heap.size + 1 + 1) 18 164 (fldF w.heap.size)
  bl : Below w.heap.size w W
set_option maxRecDepth 100000 in
set_option maxHeartbeats 4000000 in
theorem text_run (c : Cl) (h : ClSm c) (h0 : c.st ≠ 0) (w : World) :
    Calls Tryz.prog 101 #[.agg (clA c)] w fun e w' => e = .returned (.string ((str 15 fun j => if j = 14 then UInt8.ofNat c.st else rF c 6 j) ++ c.key)) ∧ Below w.heap.size w w' := by
  have HS : Hid _ := h
  have e0 : ((c.st : Int) == 0) = false := by rw [beq_eq_false_iff_ne]; omega
  have hmk : ∀ w, (Instr.makeSlice 134 (.int .i64 15) (.int .i64 15)).run Tryz.prog w = .ok (.slice (some ⟨w.heap.size, 0, none⟩) 15 15) (w.alloc (.cells (arr 15 z8) 5)) := fun w => mk8 15 (by omega) w
  have hst := h.st
  have hfx := h.fix
  have hky := h.key
  clear h
  unfold clA clC
  go_enter Tryz.func101, Tryz.ntmps101
  go_wp2_with (refine cpAt rfl _ _ rfl (w.heap.size + 1) 0 15 15 15 5 (fun _ => 0) kT rfl rfl (Row.new _ 15 5 z8 _ (by simp)) (by decide) (by decide) ?_; intro w3 hc3 r3)
  have q3 : w3.heap[w.heap.size]? = some (.cells (clA c) 100 (0, 0)) := by rw [hc3.block _ (by omega)]; exact heap_of_old _ _ _ _ (by simp) (heap_of_new _ _ _ rfl)
  have B3 : Below w.heap.size w w3 := Below.chg (((Below.refl _ w).alloc (Nat.le_refl _) _).alloc (by simp) _) hc3 (by omega)
  have z3 : w3.heap.size = w.heap.size + 1 + 1 := by rw [hc3.size]; simp
  have hrun := run_cp w3.drew 3 (w.heap.size + 1) 4 15 11 11 5 (cpF (fun _ => 0) 0 kT) c.fix r3.drew (by omega) (by omega)
  have c3 : w3.cell? ⟨w.heap.size, 3, none⟩ = some (.string c.fix) := by rw [cell_of_row _ _ 3 _ _ _ q3]; rfl
  clear hc3 hmk
  go_region
  have R4 : Row (w3.drew.setRow (w.heap.size + 1) (arr 15 (by8 (cpF (cpF (fun _ => 0) 0 kT) 4 c.fix)))) (w.heap.size + 1) 15 5 (by8 (rF c 0)) := r3.drew.setRow
  have q4 : (w3.drew.setRow (w.heap.size + 1) (arr 15 (by8 (cpF (cpF (fun _ => 0) 0 kT) 4 c.fix)))).heap[w.heap.size]? = some (.cells (clA c) 100 (0, 0)) := by rw [setRow_other _ _ _ _ (by omega)]; exact q3
  have B4 : Below w.heap.size w (w3.drew.setRow (w.heap.size + 1) (arr 15 (by8 (cpF (cpF (fun _ => 0) 0 kT) 4 c.fix)))) := Below.setRow B3.drew (by omega) _
  have z4 : (w3.drew.setRow (w.heap.size + 1) (arr 15 (by8 (cpF (cpF (fun _ => 0) 0 kT) 4 c.fix)))).heap.size = w.heap.size + 1 + 1 := by rw [← z3]; simp
  generalize w3.drew.setRow (w.heap.size + 1) (arr 15 (by8 (cpF (cpF (fun _ => 0) 0 kT) 4 c.fix))) = W4 at *
  clear q3 B3 z3 hrun c3 r3
  go_wp2_with fail
  refine (fields_any w.heap.size _).mono ?_
  rintro e w5 ⟨rfl, f5, b5⟩
  rw [z4] at f5 b5
  have L0 : LT w w5 c 0 := ⟨by rw [b5.block _ (by omega)]; exact q4, R4.keep b5 (by omega), f5, B4.trans (b5.mono (by omega))⟩
  rw [z4]
  clear q4 R4 B4 z4 f5 b5
  go_wp2_with fail
  go_loopw [5, 19] (fun _ i wr => ∃ k : Nat, k ≤ 6 ∧ i = .int .i64 k ∧ LT w wr c k) (fun _ i _ => 6 - (intOf i).toNat)
  case atStart => exact ⟨0, by omega, rfl, L0⟩
  case round =>
    clear L0
    obtain ⟨k, hk, rfl, hL⟩ := hrel
    by_cases hk6 : k < 6
    · obtain ⟨y0, y1, y2⟩ := fld_at hL.fl k hk6
      obtain ⟨a1, a2, a3⟩ := fA_fZ k hk6
      have hz := hL.fl.lt
      have X0 : TXs (wr.alloc (.cells #[.pointer (some ⟨w.heap.size, fO k, none⟩), .int .i64 (fA k), .int .i64 (fZ k)] 164)) w.heap.size wr.heap.size c k := ⟨heap_of_old _ _ _ _ (by omega) hL.cr, heap_of_new _ _ _ rfl⟩
      have hcv := cv_lt c HS.out k hk6
      have hwu : IntKind.u64.wrap ((cv c k : Nat) : Int) = ((cv c k : Nat) : Int) := wrapU (cv c k) (by omega)
      have i1 : ((fZ k : Nat) : Int) ≤ 15 := by omega
      have i2 : fA k ≤ fZ k := by omega
      have i3 : ¬ (15 = fA k) := by omega
      go_wp2_with fail
      suffices H : ∀ W, TXs W w.heap.size wr.heap.size c k → Row W (w.heap.size + 1) 15 5 (by8 (rF c k)) → Row W (w.heap.size + 1 + 1) 18 164 (fldF w.heap.size) → Below w.heap.size w W → Code.wp Tryz.prog _ _ _ W from H _ X0 (hL.run.alloc _) (hL.fl.alloc _) (hL.bl.alloc (by omega) _)
      clear X0 hL y0 y1 y2
      intro W hX hR hF hB
      have HR : Hid _ := hR
      have HF : Hid _ := hF
      have HB : Hid _ := hB
      clear hR hF hB
      refine wp_region_held_drew (S := fun W' => TXs W' w.heap.size wr.heap.size c k) (by kernel_rfl) hX.drew (fun hHeld => ?_)
      refine tp 0 _ ?r1
      refine tp 1 _ ?r2
      refine tk 2 ?v3 ?y3 ?r3
      case y3 => (intro W' hW; obtain ⟨y0, y1, y2⟩ := hW.three; go_simp; try with_reducible rfl)
      refine tp 3 _ ?r4
      refine tk 4 ?v5 ?y5 ?r5
      case y5 => (intro W' hW; obtain ⟨y0, y1, y2⟩ := hW.three; go_simp; try with_reducible rfl)
      refine tp 5 _ ?r6
      refine tp 6 _ ?r7
      refine tk 7 ?v8 ?y8 ?r8
      case y8 => (intro W' hW; obtain ⟨y0, y1, y2⟩ := hW.three; go_simp; try with_reducible rfl)
      refine tp 8 _ ?r9
      refine tk 9 ?v10 ?y10 ?r10
      case y10 => (intro W' hW; have hv := hW.val hk6; go_simp; try with_reducible rfl)
      refine tp 10 _ ?r11
      refine wpAnyH_ready (rs := [11]) (by kernel_rfl) (by simp) ?_
      refine AllReadyH.cons rfl (fun K hK => ?_) AllReadyH.nil
      go_simp
      refine (put_any (w.heap.size + 1) (fA k) (fZ k - fA k) (15 - fA k) 15 5 (rF c k) (cv c k) (by omega) (by omega) (by omega) _ (Row.drew HR.out)).mono ?_
      rintro e wb ⟨rfl, hc, hr⟩
      go_wp2_with fail
      refine hK.out _ _ (TXs.chg hHeld hc (by omega) (by omega)) (fun hHeld => ?_)
      clear hK K
      refine wpAnyH_done (by kernel_rfl) ?_ _
      have hL2 : LT w wb c (k + 1) := ⟨(TXs.chg hX.drew hc (by omega) (by omega)).cr, hr, Row.chg (Row.drew HF.out) hc (by omega), Below.chg (Below.drew HB.out) hc (by omega)⟩
      clear hHeld hX HR HF HB hc hr
      go_wp2
      exact ⟨⟨k + 1, by omega, by go_num, hL2⟩, by simp [intOf]; omega⟩
    · have : k = 6 := by omega
      subst this
      have q0 : wr.cell? ⟨w.heap.size, 0, none⟩ = some (.int .i64 c.st) := by rw [cell_of_row _ _ 0 _ _ _ hL.cr]; rfl
      have q8 : wr.cell? ⟨w.heap.size, 8, none⟩ = some (.string c.key) := by rw [cell_of_row _ _ 8 _ _ _ hL.cr]; rfl
      have f14 := hL.run.frozen 14
      have g14 := hL.run.cell 14 (by omega)
      have hw8 : ((UInt8.ofNat c.st).toNat : Int) = (c.st : Int) := by rw [UInt8.toNat_ofNat']; omega
      have R6 : Row (wr.setCell ⟨w.heap.size + 1, 14, none⟩ (.int .u8 (c.st : Int))) (w.heap.size + 1) 15 5 (by8 fun j => if j = 14 then UInt8.ofNat c.st else rF c 6 j) := by
        refine Row.congr (Row.set hL.run 14 _) (fun j hj => ?_)
        by_cases e : j = 14
        · subst e; simp only [by8, if_true]; rw [hw8]
        · simp [by8, e]
      have hcv := conv8 _ _ 15 15 5 _ 15 R6 (Nat.le_refl _)
      have u8 : (wr.setCell ⟨w.heap.size + 1, 14, none⟩ (.int .u8 (c.st : Int))).cell? ⟨w.heap.size, 8, none⟩ = some (.string c.key) := by
        have := heap_skip wr (w.heap.size + 1) w.heap.size 14 (.int .u8 (c.st : Int)) (by omega)
        rw [World.cell?_of_block (w := wr) this]; exact q8
      have BB := hL.bl
      have hz15 := str_size 15 (fun j => if j = 14 then UInt8.ofNat c.st else rF c 6 j)
      clear hw8
      go_wp2
      go_ret
      exact ⟨rfl, Below.setCell BB (by dsimp only; omega) _⟩
set_option maxRecDepth 100000 in
set_option maxHeartbeats 1000000 in
theorem text_zero (w : World) : Calls Tryz.prog 101 #[.agg (clA zCl)] w fun e w' => e = .returned (.string ⟨#[]⟩) ∧ Below w.heap.size w w' := by
  unfold clA clC zCl
  go_enter Tryz.func101, Tryz.ntmps101
  go_wp2
  go_ret
  exact ⟨rfl, (Below.refl _ _).alloc (Nat.le_refl _) _⟩
end Go.Proofs.YtgalgjmhdbncbabGreat
