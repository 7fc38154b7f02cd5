import Derived.Test.YtgalgjmhdbncbaaGreatZf03
import Derived.Test.YtgalgjmhdbncbaaGreatZf24
import Derived.Deep.AppendLies
namespace Go.Proofs.YtgalgjmhdbncbaaGreat
open Go.RowKit

def upV (s : ByteArray) (n : Nat) : ByteArray := if n < s.size then s.extract 0 n else s
theorem upV_le (s : ByteArray) (n : Nat) : (upV s n).size ≤ n := by
  unfold upV
  split
  · rw [cut_size _ _ _ (by omega)]; omega
  · omega
theorem upV_pos (s : ByteArray) (n : Nat) (hn : 1 ≤ n) (hs : 1 ≤ s.size) : 1 ≤ (upV s n).size := by
  unfold upV
  split
  · rw [cut_size _ _ _ (by omega)]; omega
  · omega
set_option maxHeartbeats 400000 in
theorem upVo_any (s : ByteArray) (n : Nat) (hn : n ≤ 1000) (w : World) : Calls Tryz.prog 47 #[.string s, .int .i64 n] w fun e w' => e = .returned (.string (upV s n)) ∧ w' = w := by
  by_cases h : n < s.size
  · have HU : Hid (upV s n = s.extract 0 n) := if_pos h
    go_enter Tryz.func47, Tryz.ntmps47
    go_wp2
    go_ret
    exact ⟨by rw [HU.out]; rfl, rfl⟩
  · have HU : Hid (upV s n = s) := if_neg h
    go_enter Tryz.func47, Tryz.ntmps47
    go_wp2
    go_ret
    exact ⟨by rw [HU.out]; rfl, rfl⟩

theorem upVo_more (s x : ByteArray) (n : Nat) (hn : n ≤ 1000) (h1 : 1 ≤ n) (hx : x.size = 1) (w : World) :
    Calls Tryz.prog 47 #[.string (s ++ x), .int .i64 n] w fun e w' => (∃ N : ByteArray, 1 ≤ N.size ∧ N.size ≤ n ∧ e = .returned (.string N)) ∧ w' = w := by
  refine (upVo_any (s ++ x) n hn w).mono ?_
  rintro e w' ⟨rfl, hw⟩
  exact ⟨⟨_, upV_pos _ _ h1 (by rw [ByteArray.size_append]; omega), upV_le _ _, rfl⟩, hw⟩
end Go.Proofs.YtgalgjmhdbncbaaGreat
namespace Go.Proofs.YtgalgjmhdbncbaaGreat
open Go.RowKit
attribute [local go_sem ↓] Go.wp_at_zero Go.wp_at_succ

set_option maxHeartbeats 400000 in
theorem lpick_any (c : Int) (n : Nat) (h1 : -9223372036854775808 ≤ c) (h2 : c ≤ 9223372036854775807) (hn : 0 < n) (hn2 : n ≤ 1152921504606846976) (w : World) :
    Calls Tryz.prog 30 #[.int .i64 c, .int .i64 n] w fun e w' => (∃ r : Nat, r < n ∧ e = .returned (.int .i64 r)) ∧ w' = w := by
  by_cases hc : c < 0
  · obtain ⟨r, hr, he⟩ := pick_neg c n hn hc
    have HE : Hid _ := he
    clear he
    go_enter Tryz.func30, Tryz.ntmps30
    go_wp2
    go_ret
    exact ⟨⟨r, hr, by rw [← HE.out]; rfl⟩, rfl⟩
  · obtain ⟨r, hr, he⟩ := pick_pos c n hn
    have HE : Hid _ := he
    clear he
    go_enter Tryz.func30, Tryz.ntmps30
    go_wp2
    go_ret
    exact ⟨⟨r, hr, by rw [← HE.out]; rfl⟩, rfl⟩

theorem cellsF {w : World} {g : Nat} {o : OpA} (h : w.heap[g]? = some (.cells (opC o) 54 (0, 0))) : w.cell? ⟨g, 0, none⟩ = some (.int .i64 o.kind) ∧ w.cell? ⟨g, 1, none⟩ = some (.int .i64 o.on) ∧ w.cell? ⟨g, 2, none⟩ = some (.int .i64 o.a) ∧ w.cell? ⟨g, 3, none⟩ = some (.bool o.yes) ∧ w.cell? ⟨g, 4, none⟩ = some (.string o.s) ∧ w.cell? ⟨g, 5, none⟩ = some (.string o.t) ∧ w.cell? ⟨g, 6, none⟩ = some (.string o.u) ∧ w.cell? ⟨g, 7, none⟩ = some (.string o.v) ∧ w.cell? ⟨g, 8, none⟩ = some (.int .i64 o.cs) ∧ w.cell? ⟨g, 9, none⟩ = some (.int .i64 o.ca) ∧ w.cell? ⟨g, 10, none⟩ = some (.int .i64 o.cm) ∧ w.cell? ⟨g, 11, none⟩ = some (.int .i64 o.ra) ∧ w.cell? ⟨g, 12, none⟩ = some (.int .i64 o.ri) ∧ w.cell? ⟨g, 13, none⟩ = some (.string o.rn) ∧ w.cell? ⟨g, 14, none⟩ = some (.string o.rb) ∧ w.cell? ⟨g, 15, none⟩ = some (.string o.rt) := by
  refine ⟨?_, ?_, ?_, ?_, ?_, ?_, ?_, ?_, ?_, ?_, ?_, ?_, ?_, ?_, ?_, ?_⟩
  · rw [cell_of_row _ _ 0 _ _ _ h]; rfl
  · rw [cell_of_row _ _ 1 _ _ _ h]; rfl
  · rw [cell_of_row _ _ 2 _ _ _ h]; rfl
  · rw [cell_of_row _ _ 3 _ _ _ h]; rfl
  · rw [cell_of_row _ _ 4 _ _ _ h]; rfl
  · rw [cell_of_row _ _ 5 _ _ _ h]; rfl
  · rw [cell_of_row _ _ 6 _ _ _ h]; rfl
  · rw [cell_of_row _ _ 7 _ _ _ h]; rfl
  · rw [cell_of_row _ _ 8 _ _ _ h]; rfl
  · rw [cell_of_row _ _ 9 _ _ _ h]; rfl
  · rw [cell_of_row _ _ 10 _ _ _ h]; rfl
  · rw [cell_of_row _ _ 11 _ _ _ h]; rfl
  · rw [cell_of_row _ _ 12 _ _ _ h]; rfl
  · rw [cell_of_row _ _ 13 _ _ _ h]; rfl
  · rw [cell_of_row _ _ 14 _ _ _ h]; rfl
  · rw [cell_of_row _ _ 15 _ _ _ h]; rfl

def Wld (w : World) (gw : Nat) (sv sr sg sw : Value) : Prop := w.heap[gw]? = some (.cells #[sv, sr, sg, sw] 48 (0, 0))
theorem Wld.lt {w : World} {gw : Nat} {sv sr sg sw : Value} (h : Wld w gw sv sr sg sw) : gw < w.heap.size := by
  unfold Wld at h
  rcases Nat.lt_or_ge gw w.heap.size with hlt | hge
  · exact hlt
  · rw [Array.getElem?_eq_none hge] at h; cases h
theorem Wld.cells {w : World} {gw : Nat} {sv sr sg sw : Value} (h : Wld w gw sv sr sg sw) : w.cell? ⟨gw, 0, none⟩ = some sv ∧ w.cell? ⟨gw, 1, none⟩ = some sr ∧ w.cell? ⟨gw, 2, none⟩ = some sg ∧ w.cell? ⟨gw, 3, none⟩ = some sw := by
  unfold Wld at h
  refine ⟨?_, ?_, ?_, ?_⟩
  · rw [cell_of_row _ _ 0 _ _ _ h]; rfl
  · rw [cell_of_row _ _ 1 _ _ _ h]; rfl
  · rw [cell_of_row _ _ 2 _ _ _ h]; rfl
  · rw [cell_of_row _ _ 3 _ _ _ h]; rfl
theorem Wld.frozen {w : World} {gw : Nat} {sv sr sg sw : Value} (h : Wld w gw sv sr sg sw) (j : Nat) : w.frozen? ⟨gw, j, none⟩ = false := frozen_of_row _ _ j _ _ h
theorem Wld.fr {w w' : World} {gw : Nat} {L : List Nat} {sv sr sg sw : Value} (h : Wld w gw sv sr sg sw) (hf : Fr L w w') (hg : gw ∉ L) : Wld w' gw sv sr sg sw := keepRow hf h hg
theorem Wld.set0 {w : World} {gw : Nat} {sv sr sg sw : Value} (h : Wld w gw sv sr sg sw) (v : Value) : Wld (w.setCell ⟨gw, 0, none⟩ v) gw v sr sg sw := by
  have := heap_setCell_same w gw 0 _ 48 v h
  simpa [Wld] using this
theorem Wld.set1 {w : World} {gw : Nat} {sv sr sg sw : Value} (h : Wld w gw sv sr sg sw) (v : Value) : Wld (w.setCell ⟨gw, 1, none⟩ v) gw sv v sg sw := by
  have := heap_setCell_same w gw 1 _ 48 v h
  simpa [Wld] using this
theorem Wld.set2 {w : World} {gw : Nat} {sv sr sg sw : Value} (h : Wld w gw sv sr sg sw) (v : Value) : Wld (w.setCell ⟨gw, 2, none⟩ v) gw sv sr v sw := by
  have := heap_setCell_same w gw 2 _ 48 v h
  simpa [Wld] using this
theorem Wld.set3 {w : World} {gw : Nat} {sv sr sg sw : Value} (h : Wld w gw sv sr sg sw) (v : Value) : Wld (w.setCell ⟨gw, 3, none⟩ v) gw sv sr sg v := by
  have := heap_setCell_same w gw 3 _ 48 v h
  simpa [Wld] using this
theorem ownsFr {w w' : World} {L : List Nat} {B e size n : Nat} {v : Value} {xs : List Value} (h : w.ownsRow B e size v n xs) (hf : Fr L w w') (hb : ∀ b, v.ownBlock = some b → b ∉ L) : w'.ownsRow B e size v n xs := by
  refine ⟨h.1, ?_⟩
  rcases h.2 with hn | ⟨g, cap, cur, rfl, h1, h2, h3⟩
  · exact .inl hn
  · exact .inr ⟨g, cap, cur, rfl, h1, keepRow hf h2 (hb g rfl), h3⟩
theorem Fr.of_grown {w w' : World} {L : List Nat} {row : Option Nat} (h : w.grownBy w' row) (hr : ∀ b, row = some b → b ∈ L) : Fr L w w' :=
  ⟨h.os, h.tape, h.output, h.size, fun k hk hn => h.block k hk (fun e => hn (hr k e.symm))⟩
theorem info_parts' {t : TypeId} {z : Value} {s b : Nat} (h : (Tryz.prog.info? t).map (fun i => (i.zero, i.size, i.bytes)) = some (some z, s, b)) : ∃ i, Tryz.prog.info? t = some i ∧ i.zero = some z ∧ i.size = s ∧ i.bytes = b := by
  rw [Option.map_eq_some_iff] at h
  obtain ⟨i, hi, e⟩ := h
  simp only [Prod.mk.injEq] at e
  exact ⟨i, hi, e.1, e.2.1, e.2.2⟩
theorem info77 : (Tryz.prog.info? 77).map (fun i => (i.zero, i.size, i.bytes)) = some (some (.agg #[.pointer none, .pointer none]), 2, 16) := by kernel_rfl
set_option maxRecDepth 100000 in
set_option maxHeartbeats 4000000 in
theorem lstore_any (B gw n : Nat) (sv sr sg sw : Value) (xs : List Value) (hn : n ≤ 1000000000000) (w : World) (hw : Wld w gw sv sr sg sw) (hB : B ≤ w.heap.size) (ho : w.ownsRow B 77 2 sv n xs) (hne : ∀ b, sv.ownBlock = some b → b ≠ gw) :
    Calls Tryz.prog 28 #[ptr gw] w fun e w' => e = .returned (.bool true) ∧ ∃ g cap gx gr gc, Wld w' gw (.slice (some ⟨g, 0, none⟩) (n + 1) cap) sr sg sw ∧ w'.ownsRow B 77 2 (.slice (some ⟨g, 0, none⟩) (n + 1) cap) (n + 1) (xs ++ [ptr gx, ptr gr]) ∧
      (sv.ownBlock = some g ∨ w.heap.size ≤ g) ∧ StoB w' gx gr gc newSto newR ∧ w.heap.size ≤ gx ∧ w.heap.size ≤ gr ∧ w.heap.size ≤ gc ∧ Fr (gw :: sv.ownBlock.toList) w w' := by
  have hlt := hw.lt
  have hsl := ho.lt
  unfold ptr
  have hns := newStore_any
  have hnr := refNew_any
  unfold ptr at hns hnr
  have H1 : Hid _ := hns
  have H2 : Hid _ := hnr
  have HN : Hid _ := hne
  have HS : Hid _ := hsl
  clear hns hnr hne hsl
  obtain ⟨i0, hi, hz0, hz1, hz2⟩ := info_parts' info77
  go_enter Tryz.func28, Tryz.ntmps28
  go_wp2_with fail
  refine (H1.out _).mono ?_
  rintro e w1 ⟨rfl, p1, b1⟩
  have y1 : w.heap.size < w1.heap.size := Row.lt p1
  go_wp2_with fail
  refine (H2.out _).mono ?_
  rintro e w2 ⟨rfl, r2, b2⟩
  have p2 := Row.keep p1 b2 y1
  have hb2 : StoB w2 w.heap.size (w1.heap.size + 1) w1.heap.size newSto newR := ⟨p2, r2, by decide⟩
  have y2 : w1.heap.size + 1 < w2.heap.size := Row.lt r2.r
  have F2 : Fr [] w w2 := (Fr.of_below [] b1 (Nat.le_refl _)).trans (Fr.of_below [] b2 (Nat.le_refl _))
  have W2 := hw.fr F2 (by simp)
  have o2 := ownsFr ho F2 (by simp)
  obtain ⟨c0, c1, c2, c3⟩ := W2.cells
  generalize hgr : w1.heap.size + 1 = gr at *
  generalize w1.heap.size = gc at *
  clear hw ho p1 b1 b2 p2 r2 H1 H2
  have HF : Hid _ := F2
  have HB : Hid _ := hb2
  have HO : Hid _ := o2
  clear F2 hb2 o2
  go_wp2_with (refine wpList_append_lies _ rfl _ _ 44 rfl B 77 i0 _ 2 16 Tryz.underlying44 hi hz0 hz1 hz2 rfl (by decide) sv n xs rfl (World.ownsRow.alloc HO.out _) ⟨w2.heap.size, 0, none⟩ 1 1 [.pointer (some ⟨w.heap.size, 0, none⟩), .pointer (some ⟨gr, 0, none⟩)] rfl rfl (World.news_of_block (heap_of_new _ _ _ rfl)) (by simp [Value.oneCell']) (by omega) (by unfold maxLen; omega) (by omega) (by simp; omega) (w2.heap.size + 1) (by simp) ?_; intro g cap w3 hown hgrow hat hlt3; have hgr2 : Hid _ := hgrow; have hown2 : Hid _ := hown; have hat2 : Hid _ := hat; clear hgrow hown hat; have F3 : Fr sv.ownBlock.toList w2 w3 := ((Fr.refl _ w2).alloc _).trans (Fr.of_grown hgr2.out (by simp)); have W3 := Wld.fr W2 F3 (by simp; intro e; exact HN.out _ e rfl); have f3 := W3.frozen 0; obtain ⟨d0, d1, d2, d3⟩ := W3.cells)
  go_ret
  have hsv : ∀ b, sv.ownBlock = some b → b < w.heap.size := fun b hb => (HS.out b hb).2
  have hL : ∀ k, k ∈ sv.ownBlock.toList → k < w.heap.size := fun k hk => hsv k (by simpa using hk)
  have hh : ∀ k, w.heap.size ≤ k → k ∉ sv.ownBlock.toList := fun k hk hm => by have := hL k hm; omega
  have B3 := StoB.fr HB.out F3 (hh _ (by omega)) (hh _ (by omega)) (hh _ (by omega))
  have F4 : Fr (gw :: sv.ownBlock.toList) w w3 := (HF.out.sub (by simp)).trans (F3.sub (by intro k hk; exact List.mem_cons_of_mem _ hk))
  have F5 : Fr [gw] w3 (w3.setCell ⟨gw, 0, none⟩ (.slice (some ⟨g, 0, none⟩) (n + 1) cap)) := Fr.setCell (Fr.refl _ _) (.inr (by simp)) _
  refine ⟨rfl, g, cap, w.heap.size, gr, gc, W3.set0 _, ownsFr hown2.out F5 ?_, ?_, StoB.fr B3 F5 (by simp; omega) (by simp; omega) (by simp; omega), Nat.le_refl _, by omega, by omega, Fr.setCell F4 (.inr (by simp)) _⟩
  · intro b hb
    simp only [Value.ownBlock, Option.some.injEq] at hb
    subst hb
    rcases hat2.out with h | h
    · simpa using HN.out _ h
    · simp; omega
  · rcases hat2.out with h | h
    · exact .inl h
    · exact .inr (by have := HF.out.size; omega)
end Go.Proofs.YtgalgjmhdbncbaaGreat
