import Derived.Test.YtgalgjmhdbncbabGreatZb20
import Derived.Deep.AppendLies
import Derived.Test.YtgalgjmhdbncbabGreatZb32
import Derived.Test.YtgalgjmhdbncbabGreatZb00
import Derived.Deep.RegionHeld
namespace Go.Proofs.YtgalgjmhdbncbabGreat
open Go.RowKit
attribute [local go_sem ↓] Go.wp_at_zero Go.wp_at_succ

set_option maxHeartbeats 400000 in
theorem lpick_any (c : Int) (n : Nat) (h1 : -9223372036854775808 ≤ c) (h2 : c ≤ 9223372036854775807) (hn : 0 < n) (hn2 : n ≤ 1152921504606846976) (w : World) :
    Calls Tryz.prog 10 #[.int .i64 c, .int .i64 n] w fun e w' => (∃ r : Nat, r < n ∧ e = .returned (.int .i64 r)) ∧ w' = w := by
  by_cases hc : c < 0
  · obtain ⟨r, hr, he⟩ := pick_neg c n hn hc
    have HE : Hid _ := he
    clear he
    go_enter Tryz.func10, Tryz.ntmps10
    go_wp2
    go_ret
    exact ⟨⟨r, hr, by rw [← HE.out]; rfl⟩, rfl⟩
  · obtain ⟨r, hr, he⟩ := pick_pos c n hn
    have HE : Hid _ := he
    clear he
    go_enter Tryz.func10, Tryz.ntmps10
    go_wp2
    go_ret
    exact ⟨⟨r, hr, by rw [← HE.out]; rfl⟩, rfl⟩

theorem cellsF {w : World} {g : Nat} {o : OpA} (h : w.heap[g]? = some (.cells (opC o) 37 (0, 0))) : w.cell? ⟨g, 0, none⟩ = some (.int .i64 o.kind) ∧ w.cell? ⟨g, 1, none⟩ = some (.int .i64 o.on) ∧ w.cell? ⟨g, 2, none⟩ = some (.int .i64 o.a) ∧ w.cell? ⟨g, 3, none⟩ = some (.bool o.yes) ∧ w.cell? ⟨g, 4, none⟩ = some (.string o.s) ∧ w.cell? ⟨g, 5, none⟩ = some (.string o.t) ∧ w.cell? ⟨g, 6, none⟩ = some (.string o.u) ∧ w.cell? ⟨g, 7, none⟩ = some (.string o.v) ∧ w.cell? ⟨g, 8, none⟩ = some (.int .i64 o.cs) ∧ w.cell? ⟨g, 9, none⟩ = some (.int .i64 o.ca) ∧ w.cell? ⟨g, 10, none⟩ = some (.int .i64 o.cm) ∧ w.cell? ⟨g, 11, none⟩ = some (.int .i64 o.ra) ∧ w.cell? ⟨g, 12, none⟩ = some (.int .i64 o.ri) ∧ w.cell? ⟨g, 13, none⟩ = some (.string o.rn) ∧ w.cell? ⟨g, 14, none⟩ = some (.string o.rb) ∧ w.cell? ⟨g, 15, none⟩ = some (.string o.rt) := by
  refine ⟨?_, ?_, ?_, ?_, ?_, ?_, ?_, ?_, ?_, ?_, ?_, ?_, ?_, ?_, ?_, ?_⟩
  · rw [cell_of_row _ _ 0 _ _ _ h]; rfl
  · rw [cell_of_row _ _ 1 _ _ _ h]; rfl
  · rw [cell_of_row _ _ 2 _ _ _ h]; rfl
  · rw [cell_of_row _ _ 3 _ _ _ h]; rfl
  · rw [cell_of_row _ _ 4 _ _ _ h]; rfl
  · rw [cell_of_row _ _ 5 _ _ _ h]; rfl
  · rw [cell_of_row _ _ 6 _ _ _ h]; rfl
  · rw [cell_of_row _ _ 7 _ _ _ h]; rfl
  · rw [cell_of_row _ _ 8 _ _ _ h]; rfl
  · rw [cell_of_row _ _ 9 _ _ _ h]; rfl
  · rw [cell_of_row _ _ 10 _ _ _ h]; rfl
  · rw [cell_of_row _ _ 11 _ _ _ h]; rfl
  · rw [cell_of_row _ _ 12 _ _ _ h]; rfl
  · rw [cell_of_row _ _ 13 _ _ _ h]; rfl
  · rw [cell_of_row _ _ 14 _ _ _ h]; rfl
  · rw [cell_of_row _ _ 15 _ _ _ h]; rfl

def Wld (w : World) (gw : Nat) (sv sr sg sw : Value) : Prop := w.heap[gw]? = some (.cells #[sv, sr, sg, sw] 31 (0, 0))
theorem Wld.lt {w : World} {gw : Nat} {sv sr sg sw : Value} (h : Wld w gw sv sr sg sw) : gw < w.heap.size := by
  unfold Wld at h
  rcases Nat.lt_or_ge gw w.heap.size with hlt | hge
  · exact hlt
  · rw [Array.getElem?_eq_none hge] at h; cases h
theorem Wld.cells {w : World} {gw : Nat} {sv sr sg sw : Value} (h : Wld w gw sv sr sg sw) : w.cell? ⟨gw, 0, none⟩ = some sv ∧ w.cell? ⟨gw, 1, none⟩ = some sr ∧ w.cell? ⟨gw, 2, none⟩ = some sg ∧ w.cell? ⟨gw, 3, none⟩ = some sw := by
  unfold Wld at h
  refine ⟨?_, ?_, ?_, ?_⟩
  · rw [cell_of_row _ _ 0 _ _ _ h]; rfl
  · rw [cell_of_row _ _ 1 _ _ _ h]; rfl
  · rw [cell_of_row _ _ 2 _ _ _ h]; rfl
  · rw [cell_of_row _ _ 3 _ _ _ h]; rfl
theorem Wld.frozen {w : World} {gw : Nat} {sv sr sg sw : Value} (h : Wld w gw sv sr sg sw) (j : Nat) : w.frozen? ⟨gw, j, none⟩ = false := frozen_of_row _ _ j _ _ h
theorem Wld.fr {w w' : World} {gw : Nat} {L : List Nat} {sv sr sg sw : Value} (h : Wld w gw sv sr sg sw) (hf : Fr L w w') (hg : gw ∉ L) : Wld w' gw sv sr sg sw := keepRow hf h hg
theorem Wld.set0 {w : World} {gw : Nat} {sv sr sg sw : Value} (h : Wld w gw sv sr sg sw) (v : Value) : Wld (w.setCell ⟨gw, 0, none⟩ v) gw v sr sg sw := by
  have := heap_setCell_same w gw 0 _ 31 v h
  simpa [Wld] using this
theorem Wld.set1 {w : World} {gw : Nat} {sv sr sg sw : Value} (h : Wld w gw sv sr sg sw) (v : Value) : Wld (w.setCell ⟨gw, 1, none⟩ v) gw sv v sg sw := by
  have := heap_setCell_same w gw 1 _ 31 v h
  simpa [Wld] using this
theorem Wld.set2 {w : World} {gw : Nat} {sv sr sg sw : Value} (h : Wld w gw sv sr sg sw) (v : Value) : Wld (w.setCell ⟨gw, 2, none⟩ v) gw sv sr v sw := by
  have := heap_setCell_same w gw 2 _ 31 v h
  simpa [Wld] using this
theorem Wld.set3 {w : World} {gw : Nat} {sv sr sg sw : Value} (h : Wld w gw sv sr sg sw) (v : Value) : Wld (w.setCell ⟨gw, 3, none⟩ v) gw sv sr sg v := by
  have := heap_setCell_same w gw 3 _ 31 v h
  simpa [Wld] using this
theorem ownsFr {w w' : World} {L : List Nat} {B e size n : Nat} {v : Value} {xs : List Value} (h : w.ownsRow B e size v n xs) (hf : Fr L w w') (hb : ∀ b, v.ownBlock = some b → b ∉ L) : w'.ownsRow B e size v n xs := by
  refine ⟨h.1, ?_⟩
  rcases h.2 with hn | ⟨g, cap, cur, rfl, h1, h2, h3⟩
  · exact .inl hn
  · exact .inr ⟨g, cap, cur, rfl, h1, keepRow hf h2 (hb g rfl), h3⟩
theorem Fr.of_grown {w w' : World} {L : List Nat} {row : Option Nat} (h : w.grownBy w' row) (hr : ∀ b, row = some b → b ∈ L) : Fr L w w' :=
  ⟨h.os, h.tape, h.output, h.size, fun k hk hn => h.block k hk (fun e => hn (hr k e.symm))⟩
theorem info_parts' {t : TypeId} {z : Value} {s b : Nat} (h : (Tryz.prog.info? t).map (fun i => (i.zero, i.size, i.bytes)) = some (some z, s, b)) : ∃ i, Tryz.prog.info? t = some i ∧ i.zero = some z ∧ i.size = s ∧ i.bytes = b := by
  rw [Option.map_eq_some_iff] at h
  obtain ⟨i, hi, e⟩ := h
  simp only [Prod.mk.injEq] at e
  exact ⟨i, hi, e.1, e.2.1, e.2.2⟩
theorem info77 : (Tryz.prog.info? 44).map (fun i => (i.zero, i.size, i.bytes)) = some (some (.agg #[.pointer none, .pointer none]), 2, 16) := by kernel_rfl
set_option maxRecDepth 100000 in
set_option maxHeartbeats 4000000 in
theorem lstore_any (B gw n : Nat) (sv sr sg sw : Value) (xs : List Value) (hn : n ≤ 1000000000000) (w : World) (hw : Wld w gw sv sr sg sw) (hB : B ≤ w.heap.size) (ho : w.ownsRow B 44 2 sv n xs) (hne : ∀ b, sv.ownBlock = some b → b ≠ gw) :
    Calls Tryz.prog 8 #[ptr gw] w fun e w' => e = .returned (.bool true) ∧ ∃ g cap gx gr gc, Wld w' gw (.slice (some ⟨g, 0, none⟩) (n + 1) cap) sr sg sw ∧ w'.ownsRow B 44 2 (.slice (some ⟨g, 0, none⟩) (n + 1) cap) (n + 1) (xs ++ [ptr gx, ptr gr]) ∧
      (sv.ownBlock = some g ∨ w.heap.size ≤ g) ∧ StoB w' gx gr gc newSto newR ∧ w.heap.size ≤ gx ∧ w.heap.size ≤ gr ∧ w.heap.size ≤ gc ∧ Fr (gw :: sv.ownBlock.toList) w w' := by
  have hlt := hw.lt
  have hsl := ho.lt
  unfold ptr
  have hns := newStore_any
  have hnr := refNew_any
  unfold ptr at hns hnr
  have H1 : Hid _ := hns
  have H2 : Hid _ := hnr
  have HN : Hid _ := hne
  have HS : Hid _ := hsl
  clear hns hnr hne hsl
  obtain ⟨i0, hi, hz0, hz1, hz2⟩ := info_parts' info77
  go_enter Tryz.func8, Tryz.ntmps8
  go_wp2_with fail
  refine (H1.out _).mono ?_
  rintro e w1 ⟨rfl, p1, b1⟩
  have y1 : w.heap.size < w1.heap.size := Row.lt p1
  go_wp2_with fail
  refine (H2.out _).mono ?_
  rintro e w2 ⟨rfl, r2, b2⟩
  have p2 := Row.keep p1 b2 y1
  have hb2 : StoB w2 w.heap.size (w1.heap.size + 1) w1.heap.size newSto newR := ⟨p2, r2, by decide⟩
  have y2 : w1.heap.size + 1 < w2.heap.size := Row.lt r2.r
  have F2 : Fr [] w w2 := (Fr.of_below [] b1 (Nat.le_refl _)).trans (Fr.of_below [] b2 (Nat.le_refl _))
  have W2 := hw.fr F2 (by simp)
  have o2 := ownsFr ho F2 (by simp)
  obtain ⟨c0, c1, c2, c3⟩ := W2.cells
  generalize hgr : w1.heap.size + 1 = gr at *
  generalize w1.heap.size = gc at *
  clear hw ho p1 b1 b2 p2 r2 H1 H2
  have HF : Hid _ := F2
  have HB : Hid _ := hb2
  have HO : Hid _ := o2
  clear F2 hb2 o2
  go_wp2_with (refine wpList_append_lies _ rfl _ _ 27 rfl B 44 i0 _ 2 16 Tryz.underlying27 hi hz0 hz1 hz2 rfl (by decide) sv n xs rfl (World.ownsRow.alloc HO.out _) ⟨w2.heap.size, 0, none⟩ 1 1 [.pointer (some ⟨w.heap.size, 0, none⟩), .pointer (some ⟨gr, 0, none⟩)] rfl rfl (World.news_of_block (heap_of_new _ _ _ rfl)) (by simp [Value.oneCell']) (by omega) (by unfold maxLen; omega) (by omega) (by simp; omega) (w2.heap.size + 1) (by simp) ?_; intro g cap w3 hown hgrow hat hlt3; have hgr2 : Hid _ := hgrow; have hown2 : Hid _ := hown; have hat2 : Hid _ := hat; clear hgrow hown hat; have F3 : Fr sv.ownBlock.toList w2 w3 := ((Fr.refl _ w2).alloc _).trans (Fr.of_grown hgr2.out (by simp)); have W3 := Wld.fr W2 F3 (by simp; intro e; exact HN.out _ e rfl); have f3 := W3.frozen 0; obtain ⟨d0, d1, d2, d3⟩ := W3.cells)
  go_ret
  have hsv : ∀ b, sv.ownBlock = some b → b < w.heap.size := fun b hb => (HS.out b hb).2
  have hL : ∀ k, k ∈ sv.ownBlock.toList → k < w.heap.size := fun k hk => hsv k (by simpa using hk)
  have hh : ∀ k, w.heap.size ≤ k → k ∉ sv.ownBlock.toList := fun k hk hm => by have := hL k hm; omega
  have B3 := StoB.fr HB.out F3 (hh _ (by omega)) (hh _ (by omega)) (hh _ (by omega))
  have F4 : Fr (gw :: sv.ownBlock.toList) w w3 := (HF.out.sub (by simp)).trans (F3.sub (by intro k hk; exact List.mem_cons_of_mem _ hk))
  have F5 : Fr [gw] w3 (w3.setCell ⟨gw, 0, none⟩ (.slice (some ⟨g, 0, none⟩) (n + 1) cap)) := Fr.setCell (Fr.refl _ _) (.inr (by simp)) _
  refine ⟨rfl, g, cap, w.heap.size, gr, gc, W3.set0 _, ownsFr hown2.out F5 ?_, ?_, StoB.fr B3 F5 (by simp; omega) (by simp; omega) (by simp; omega), Nat.le_refl _, by omega, by omega, Fr.setCell F4 (.inr (by simp)) _⟩
  · intro b hb
    simp only [Value.ownBlock, Option.some.injEq] at hb
    subst hb
    rcases hat2.out with h | h
    · simpa using HN.out _ h
    · simp; omega
  · rcases hat2.out with h | h
    · exact .inl h
    · exact .inr (by have := HF.out.size; omega)
end Go.Proofs.YtgalgjmhdbncbabGreat
namespace Go.Proofs.YtgalgjmhdbncbabGreat
open Go.RowKit
attribute [local go_sem ↓] Go.wp_at_zero Go.wp_at_succ

def rhL (hs : List Rh) : List Value := hs.flatMap fun h => (rhA h).toList
theorem rhL_len (hs : List Rh) : (rhL hs).length = hs.length * 11 := by
  induction hs with
  | nil => rfl
  | cons a l ih => rw [show rhL (a :: l) = (rhA a).toList ++ rhL l from rfl, List.length_append, ih, List.length_cons, show (rhA a).toList.length = 11 from rfl]; omega
theorem rhL_snoc (hs : List Rh) (h : Rh) : rhL (hs ++ [h]) = rhL hs ++ (rhA h).toList := by simp [rhL]
theorem rhL_at (hs : List Rh) : ∀ (k : Nat) (h : Rh), hs[k]? = some h → ∀ j, j < 11 → (rhL hs)[k * 11 + j]? = (rhA h).toList[j]? := by
  induction hs with
  | nil => intro k h hk; simp at hk
  | cons a l ih =>
    intro k h hk j hj
    rw [show rhL (a :: l) = (rhA a).toList ++ rhL l from rfl]
    cases k with
    | zero =>
      simp only [List.getElem?_cons_zero, Option.some.injEq] at hk
      subst hk
      rw [List.getElem?_append_left (by show _ < 11; omega), Nat.zero_mul, Nat.zero_add]
    | succ k =>
      rw [List.getElem?_cons_succ] at hk
      rw [List.getElem?_append_right (by show 11 ≤ _; omega), ← ih k h hk j hj]
      congr 1
      show _ - 11 = _
      omega
structure TabR (w : World) (B g gs num : Nat) (fl : Bool) (sh : Value) (hs : List Rh) : Prop where
  r : w.heap[g]? = some (.cells #[ptr gs, .int .i64 num, .bool fl, sh] 111 (0, 0))
  o : w.ownsRow B 113 11 sh hs.length (rhL hs)
theorem cells4' {w : World} {g : Nat} {t : TypeId} {v0 v1 v2 v3 : Value} (h : w.heap[g]? = some (.cells #[v0, v1, v2, v3] t (0, 0))) : w.cell? ⟨g, 0, none⟩ = some v0 ∧ w.cell? ⟨g, 1, none⟩ = some v1 ∧ w.cell? ⟨g, 2, none⟩ = some v2 ∧ w.cell? ⟨g, 3, none⟩ = some v3 := by
  refine ⟨?_, ?_, ?_, ?_⟩
  · rw [cell_of_row _ _ 0 _ _ _ h]; rfl
  · rw [cell_of_row _ _ 1 _ _ _ h]; rfl
  · rw [cell_of_row _ _ 2 _ _ _ h]; rfl
  · rw [cell_of_row _ _ 3 _ _ _ h]; rfl
theorem heap_lt {w : World} {g : Nat} {cs : Array Value} {t : TypeId} (h : w.heap[g]? = some (.cells cs t (0, 0))) : g < w.heap.size := by
  rcases Nat.lt_or_ge g w.heap.size with hlt | hge
  · exact hlt
  · rw [Array.getElem?_eq_none hge] at h; cases h
theorem TabR.drew {w : World} {B g gs num : Nat} {fl : Bool} {sh : Value} {hs : List Rh} (h : TabR w B g gs num fl sh hs) : TabR w.drew B g gs num fl sh hs := ⟨h.r, h.o⟩
theorem TabR.lt {w : World} {B g gs num : Nat} {fl : Bool} {sh : Value} {hs : List Rh} (h : TabR w B g gs num fl sh hs) : g < w.heap.size := heap_lt h.r
theorem TabR.fr {w w' : World} {L : List Nat} {B g gs num : Nat} {fl : Bool} {sh : Value} {hs : List Rh} (h : TabR w B g gs num fl sh hs) (hf : Fr L w w') (h1 : g ∉ L) (h2 : ∀ b, sh.ownBlock = some b → b ∉ L) : TabR w' B g gs num fl sh hs := ⟨keepRow hf h.r h1, ownsFr h.o hf h2⟩
theorem TabR.below {w w' : World} {B g gs num : Nat} {fl : Bool} {sh : Value} {hs : List Rh} (h : TabR w B g gs num fl sh hs) (hb : Below w.heap.size w w') : TabR w' B g gs num fl sh hs := h.fr (Fr.of_below [] hb (Nat.le_refl _)) (by simp) (by simp)
structure RhAt (w : World) (g o : Nat) (h : Rh) : Prop where
  c0 : w.cell? ⟨g, o, none⟩ = some (.int .i64 h.alg)
  c1 : w.cell? ⟨g, o + 1, none⟩ = some (.int .i64 h.id)
  c2 : w.cell? ⟨g, o + 2, none⟩ = some (.string h.fix)
  c3 : w.cell? ⟨g, o + 3, none⟩ = some (.int .i64 h.seals)
  c4 : w.cell? ⟨g, o + 4, none⟩ = some (.int .i64 h.ahead)
  c5 : w.cell? ⟨g, o + 5, none⟩ = some (.int .i64 h.most)
  c6 : w.cell? ⟨g, o + 6, none⟩ = some (.int .i64 h.res)
  c7 : w.cell? ⟨g, o + 7, none⟩ = some (.bool h.ret)
  c8 : w.cell? ⟨g, o + 8, none⟩ = some (.string h.key)
  c9 : w.cell? ⟨g, o + 9, none⟩ = some (.int .i64 h.pos)
  c10 : w.cell? ⟨g, o + 10, none⟩ = some (.int .i64 h.ctr)
theorem TabR.sl {w : World} {B g gs num : Nat} {fl : Bool} {sh : Value} {hs : List Rh} (t : TabR w B g gs num fl sh hs) :
    ∃ p cap, sh = .slice p hs.length cap ∧ ∀ k h, hs[k]? = some h → ∃ gh, p = some ⟨gh, 0, none⟩ ∧ RhAt w gh (k * 11) h ∧ gh < w.heap.size ∧ B ≤ gh ∧ (∀ j, w.frozen? ⟨gh, j, none⟩ = false) := by
  rcases t.o.2 with ⟨e, h0⟩ | ⟨gh, cap, cur, e, hB, hr, h1, h2, h3, h4⟩
  · refine ⟨none, 0, by rw [h0]; exact e, fun k h hk => ?_⟩
    rw [List.getElem?_eq_none (by omega)] at hk; cases hk
  · refine ⟨_, cap, e, fun k h hk => ⟨gh, rfl, ?_, heap_lt hr, hB, fun j => frozen_of_row _ _ j _ _ hr⟩⟩
    have hkl : k < hs.length := by
      rcases Nat.lt_or_ge k hs.length with hlt | hge
      · exact hlt
      · rw [List.getElem?_eq_none hge] at hk; cases hk
    have key : ∀ j v, j < 11 → (rhA h).toList[j]? = some v → w.cell? ⟨gh, k * 11 + j, none⟩ = some v := by
      intro j v hj hv
      rw [cell_of_row _ _ _ _ _ _ hr, ← Array.getElem?_toList]
      have := rhL_at hs k h hk j hj
      rw [← h4, List.getElem?_take_of_lt (by omega)] at this
      rw [this]; exact hv
    exact ⟨key 0 _ (by omega) rfl, key 1 _ (by omega) rfl, key 2 _ (by omega) rfl, key 3 _ (by omega) rfl, key 4 _ (by omega) rfl, key 5 _ (by omega) rfl, key 6 _ (by omega) rfl, key 7 _ (by omega) rfl, key 8 _ (by omega) rfl, key 9 _ (by omega) rfl, key 10 _ (by omega) rfl⟩
def FindR (hs : List Rh) (id : Int) (r : Int) : Prop := (∃ (k : Nat) (h : Rh), hs[k]? = some h ∧ (h.id : Int) = id ∧ (∀ j h, j < k → hs[j]? = some h → (h.id : Int) ≠ id) ∧ r = k) ∨ ((∀ (j : Nat) h, hs[j]? = some h → (h.id : Int) ≠ id) ∧ r = -1)
set_option maxRecDepth 100000 in
set_option maxHeartbeats 4000000 in
theorem rfind_any (B g gs num : Nat) (fl : Bool) (sh : Value) (hs : List Rh) (id : Int) (hl : hs.length ≤ 8) (w : World) (t : TabR w B g gs num fl sh hs) :
    Calls Tryz.prog 55 #[ptr g, .int .i64 id] w fun e w' => (∃ r, FindR hs id r ∧ e = .returned (.int .i64 r)) ∧ w' = w := by
  obtain ⟨p, cap, rfl, hat⟩ := t.sl
  obtain ⟨a0, a1, a2, a3⟩ := cells4' t.r
  have HL : Hid _ := hl
  unfold ptr
  go_enter Tryz.func55, Tryz.ntmps55
  go_wp2
  go_loopw [5] (fun i wr => wr = w ∧ ∃ k : Nat, k ≤ hs.length ∧ i = .int .i64 k ∧ Hid (∀ (j : Nat) h, j < k → hs[j]? = some h → (h.id : Int) ≠ id)) (fun i _ => hs.length - (intOf i).toNat)
  case atStart => exact ⟨rfl, 0, by omega, rfl, fun j h hj => by omega⟩
  case round =>
    obtain ⟨rfl, k, hk, rfl, HN⟩ := hrel
    by_cases hk8 : k < hs.length
    · obtain ⟨h, hh⟩ : ∃ h, hs[k]? = some h := ⟨hs[k], List.getElem?_eq_getElem hk8⟩
      obtain ⟨gh, rfl, hA, _, _, _⟩ := hat k h hh
      have c1 := hA.c1
      by_cases hid : (h.id : Int) = id
      · have e1 : ((h.id : Int) == id) = true := by rw [beq_iff_eq]; exact hid
        have HR : Hid (FindR hs id k) := .inl ⟨k, h, hh, hid, HN.out, rfl⟩
        clear hid hat hA
        go_wp2
        go_ret
        exact ⟨⟨_, HR.out, rfl⟩, rfl⟩
      · have e1 : ((h.id : Int) == id) = false := by rw [beq_eq_false_iff_ne]; exact hid
        have HN2 : Hid (∀ (j : Nat) h, j < k + 1 → hs[j]? = some h → (h.id : Int) ≠ id) := fun j h' hj hh' => by
          by_cases e : j = k
          · subst e; rw [hh] at hh'; simp only [Option.some.injEq] at hh'; subst hh'; exact hid
          · exact HN.out j h' (by omega) hh'
        clear hat hA
        go_wp2
        exact ⟨⟨trivial, k + 1, by omega, by go_num, HN2⟩, by simp [intOf]; omega⟩
    · have HR : Hid (FindR hs id (-1)) := .inr ⟨fun j h hj => HN.out j h (by
        rcases Nat.lt_or_ge j hs.length with hlt | hge
        · omega
        · rw [List.getElem?_eq_none hge] at hj; cases hj) hj, rfl⟩
      clear hat
      go_wp2
      go_ret
      exact ⟨⟨_, HR.out, rfl⟩, rfl⟩
end Go.Proofs.YtgalgjmhdbncbabGreat
namespace Go.Proofs.YtgalgjmhdbncbabGreat
open Go.RowKit
attribute [local go_sem ↓] Go.wp_at_zero Go.wp_at_succ

structure OvS (W : World) (g gs num : Nat) (fl : Bool) (user : Nat) : Prop where
  a0 : W.cell? ⟨g, 0, none⟩ = some (.pointer (some ⟨gs, 0, none⟩))
  a1 : W.cell? ⟨g, 1, none⟩ = some (.int .i64 num)
  a2 : W.cell? ⟨g, 2, none⟩ = some (.bool fl)
  u : W.cell? ⟨gs, 4, none⟩ = some (.int .i64 user)
theorem OvS.drew {W : World} {g gs num : Nat} {fl : Bool} {user : Nat} (h : OvS W g gs num fl user) : OvS W.drew g gs num fl user := ⟨h.a0, h.a1, h.a2, h.u⟩
def overB (fl : Bool) (user num : Nat) : Bool := fl || decide (user ≠ num)
set_option maxRecDepth 100000 in
set_option maxHeartbeats 4000000 in
theorem rover_at (g gs num : Nat) (fl : Bool) (user : Nat) (w : World) (hS : OvS w g gs num fl user) :
    Calls Tryz.prog 60 #[ptr g] w fun e w' => e = .returned (.bool (overB fl user num)) ∧ Below w.heap.size w w' := by
  unfold ptr
  cases fl
  case true =>
    go_enter Tryz.func60, Tryz.ntmps60
    go_wp2_with fail
    refine wp_region_held_drew (S := fun W' => OvS W' g gs num true user) (by kernel_rfl) hS.drew (fun hHeld => ?_)
    refine tp 0 _ ?r1
    refine nz ?_
    refine tp 1 _ ?r2
    refine nz ?_
    refine tp 2 _ ?r3
    refine nz ?_
    refine tk 3 ?v4 ?y4 ?r4
    case y4 => (intro W' hW; obtain ⟨a0, a1, a2, u⟩ := hW; go_simp; try with_reducible rfl)
    refine nz ?_
    refine tp 4 _ ?r5
    refine nz ?_
    refine wpAnyH_take (i := 5) (v := undef) rfl (by kernel_rfl) (by kernel_rfl) (by kernel_rfl) (fun _ _ _ h => h) (Or.inr ⟨by rfl, rfl⟩) (by assumption) ?r6
    refine nz ?_
    refine wpAnyH_take (i := 6) (v := undef) rfl (by kernel_rfl) (by kernel_rfl) (by kernel_rfl) (fun _ _ _ h => h) (Or.inr ⟨by rfl, rfl⟩) (by assumption) ?r7
    refine nz ?_
    refine wpAnyH_take (i := 7) (v := undef) rfl (by kernel_rfl) (by kernel_rfl) (by kernel_rfl) (fun _ _ _ h => h) (Or.inr ⟨by rfl, rfl⟩) (by assumption) ?r8
    refine nz ?_
    refine wpAnyH_take (i := 8) (v := undef) rfl (by kernel_rfl) (by kernel_rfl) (by kernel_rfl) (fun _ _ _ h => h) (Or.inr ⟨by rfl, rfl⟩) (by assumption) ?r9
    refine nz ?_
    refine wpAnyH_take (i := 9) (v := undef) rfl (by kernel_rfl) (by kernel_rfl) (by kernel_rfl) (fun _ _ _ h => h) (Or.inr ⟨by rfl, rfl⟩) (by assumption) ?r10
    refine nz ?_
    refine wpAnyH_take (i := 10) (v := undef) rfl (by kernel_rfl) (by kernel_rfl) (by kernel_rfl) (fun _ _ _ h => h) (Or.inr ⟨by rfl, rfl⟩) (by assumption) ?r11
    refine nz ?_
    refine wpAnyH_take (i := 11) (v := undef) rfl (by kernel_rfl) (by kernel_rfl) (by kernel_rfl) (fun _ _ _ h => h) (Or.inr ⟨by rfl, rfl⟩) (by assumption) ?r12
    refine nz ?_
    refine wpAnyH_take (i := 12) (v := undef) rfl (by kernel_rfl) (by kernel_rfl) (by kernel_rfl) (fun _ _ _ h => h) (Or.inr ⟨by rfl, rfl⟩) (by assumption) ?r13
    refine nz ?_
    refine wpAnyH_take (i := 13) (v := undef) rfl (by kernel_rfl) (by kernel_rfl) (by kernel_rfl) (fun _ _ _ h => h) (Or.inr ⟨by rfl, rfl⟩) (by assumption) ?r14
    refine nz ?_
    refine wpAnyH_take (i := 14) (v := undef) rfl (by kernel_rfl) (by kernel_rfl) (by kernel_rfl) (fun _ _ _ h => h) (Or.inr ⟨by rfl, rfl⟩) (by assumption) ?r15
    refine nz ?_
    refine wpAnyH_take (i := 15) (v := undef) rfl (by kernel_rfl) (by kernel_rfl) (by kernel_rfl) (fun _ _ _ h => h) (Or.inr ⟨by rfl, rfl⟩) (by assumption) ?r16
    refine nz ?_
    refine wpAnyH_take (i := 16) (v := undef) rfl (by kernel_rfl) (by kernel_rfl) (by kernel_rfl) (fun _ _ _ h => h) (Or.inr ⟨by rfl, rfl⟩) (by assumption) ?r17
    refine nz ?_
    refine tp 17 _ ?r18
    refine nz ?_
    refine tp 18 _ ?r19
    refine nz ?_
    refine wpAnyH_done (by kernel_rfl) ?_ _
    go_wp2
    go_ret
    exact ⟨rfl, (Below.refl _ _).drew⟩
  case false =>
    have hne : ((user : Int) != (num : Int)) = decide (user ≠ num) := by
      rw [Bool.eq_iff_iff, bne_iff_ne, decide_eq_true_iff]; omega
    have HN : Hid _ := hne
    clear hne
    go_enter Tryz.func60, Tryz.ntmps60
    go_wp2_with fail
    refine wp_region_held_drew (S := fun W' => OvS W' g gs num false user) (by kernel_rfl) hS.drew (fun hHeld => ?_)
    refine tp 0 _ ?r20
    refine nz ?_
    refine tp 1 _ ?r21
    refine nz ?_
    refine tp 2 _ ?r22
    refine nz ?_
    refine tk 3 ?v23 ?y23 ?r23
    case y23 => (intro W' hW; obtain ⟨a0, a1, a2, u⟩ := hW; go_simp; try with_reducible rfl)
    refine nz ?_
    refine tp 4 _ ?r24
    refine nz ?_
    refine tp 5 _ ?r25
    refine nz ?_
    refine tp 6 _ ?r26
    refine nz ?_
    refine tp 7 _ ?r27
    refine nz ?_
    refine tk 8 ?v28 ?y28 ?r28
    case y28 => (intro W' hW; obtain ⟨a0, a1, a2, u⟩ := hW; go_simp; try with_reducible rfl)
    refine nz ?_
    refine tp 9 _ ?r29
    refine nz ?_
    refine tp 10 _ ?r30
    refine nz ?_
    refine tk 11 ?v31 ?y31 ?r31
    case y31 => (intro W' hW; obtain ⟨a0, a1, a2, u⟩ := hW; go_simp; try with_reducible rfl)
    refine nz ?_
    refine tp 12 _ ?r32
    refine nz ?_
    refine tp 13 _ ?r33
    refine nz ?_
    refine tp 14 _ ?r34
    refine nz ?_
    refine tk 15 ?v35 ?y35 ?r35
    case y35 => (intro W' hW; obtain ⟨a0, a1, a2, u⟩ := hW; go_simp; try with_reducible rfl)
    refine nz ?_
    refine tp 16 _ ?r36
    refine nz ?_
    refine tp 17 _ ?r37
    refine nz ?_
    refine tp 18 _ ?r38
    refine nz ?_
    refine wpAnyH_done (by kernel_rfl) ?_ _
    go_wp2
    go_ret
    exact ⟨by show Ending.returned (.bool (((user : Int) != (num : Int)))) = _; rw [HN.out]; rfl, (Below.refl _ _).drew⟩

theorem rover_any (B g gs gc num : Nat) (fl : Bool) (sh : Value) (hs : List Rh) (S : Sto) (R : RSt) (w : World) (t : TabR w B g gs num fl sh hs) (h : StoR w gs gc S R) :
    Calls Tryz.prog 60 #[ptr g] w fun e w' => e = .returned (.bool (overB fl R.user num)) ∧ Below w.heap.size w w' := by
  obtain ⟨a0, a1, a2, a3⟩ := cells4' t.r
  exact rover_at g gs num fl R.user w ⟨a0, a1, a2, h.at4⟩

def FreeR (hs : List Rh) (r : Int) : Prop := (∃ i : Nat, i < 8 ∧ (∀ (k : Nat) h, hs[k]? = some h → h.pos ≠ i) ∧ (∀ j, j < i → ∃ (k : Nat) (h : Rh), hs[k]? = some h ∧ h.pos = j) ∧ r = i) ∨ ((∀ j, j < 8 → ∃ (k : Nat) (h : Rh), hs[k]? = some h ∧ h.pos = j) ∧ r = -1)
set_option maxRecDepth 100000 in
set_option maxHeartbeats 4000000 in
theorem rfree_any (B g gs num : Nat) (fl : Bool) (sh : Value) (hs : List Rh) (hl : hs.length ≤ 8) (w : World) (t : TabR w B g gs num fl sh hs) :
    Calls Tryz.prog 62 #[ptr g] w fun e w' => (∃ r, FreeR hs r ∧ e = .returned (.int .i64 r)) ∧ w' = w := by
  obtain ⟨p, cap, rfl, hat⟩ := t.sl
  obtain ⟨a0, a1, a2, a3⟩ := cells4' t.r
  have HA : Hid _ := hat
  clear hat t
  unfold ptr
  go_enter Tryz.func62, Tryz.ntmps62
  go_wp2
  go_loopw [3, 4, 5] (fun i _ _ wr => wr = w ∧ ∃ k : Nat, k ≤ 8 ∧ i = .int .i64 k ∧ Hid (∀ j, j < k → ∃ (m : Nat) (h : Rh), hs[m]? = some h ∧ h.pos = j)) (fun i _ _ _ => 8 - (intOf i).toNat)
  case atStart => exact ⟨rfl, 0, by omega, rfl, fun j hj => by omega⟩
  case round =>
    obtain ⟨rfl, k, hk, rfl, HN⟩ := hrel
    by_cases hk8 : k < 8
    · go_wp2
      go_loopw [4, 5] (fun b i wr' => wr' = wr ∧ ∃ (m : Nat) (x : Bool), m ≤ hs.length ∧ b = .bool x ∧ i = .int .i64 m ∧ Hid (x = true ↔ ∃ (q : Nat) (h : Rh), q < m ∧ hs[q]? = some h ∧ h.pos = k)) (fun _ i _ => hs.length - (intOf i).toNat)
      case atStart => exact ⟨rfl, 0, false, by omega, rfl, rfl, ⟨fun h => (by cases h), fun ⟨q, h, hq, _⟩ => by omega⟩⟩
      case round =>
        obtain ⟨rfl, m, x, hm, rfl, rfl, HX⟩ := hrel
        by_cases hm8 : m < hs.length
        · obtain ⟨h, hh⟩ : ∃ h, hs[m]? = some h := ⟨hs[m], List.getElem?_eq_getElem hm8⟩
          obtain ⟨gh, rfl, hA, _, _, _⟩ := HA.out m h hh
          have c9 := hA.c9
          by_cases hp : h.pos = k
          · have e1 : ((h.pos : Int) == (k : Int)) = true := by rw [beq_iff_eq]; omega
            have HX2 : Hid (true = true ↔ ∃ (q : Nat) (h : Rh), q < m + 1 ∧ hs[q]? = some h ∧ h.pos = k) := ⟨fun _ => ⟨m, h, by omega, hh, hp⟩, fun _ => rfl⟩
            clear hp hA
            go_wp2
            exact ⟨⟨trivial, m + 1, true, by omega, rfl, by go_num, HX2⟩, by simp [intOf]; omega⟩
          · have e1 : ((h.pos : Int) == (k : Int)) = false := by rw [beq_eq_false_iff_ne]; omega
            have HX2 : Hid (x = true ↔ ∃ (q : Nat) (h : Rh), q < m + 1 ∧ hs[q]? = some h ∧ h.pos = k) := by
              refine HX.out.trans ⟨fun ⟨q, h', h1, h2, h3⟩ => ⟨q, h', by omega, h2, h3⟩, fun ⟨q, h', h1, h2, h3⟩ => ⟨q, h', ?_, h2, h3⟩⟩
              by_cases e : q = m
              · subst e; rw [hh] at h2; simp only [Option.some.injEq] at h2; subst h2; exact absurd h3 hp
              · omega
            clear hp hA
            go_wp2
            exact ⟨⟨trivial, m + 1, x, by omega, rfl, by go_num, HX2⟩, by simp [intOf]; omega⟩
        · have hm' : m = hs.length := by omega
          cases x
          case false =>
            have hno : ∀ (q : Nat) h, hs[q]? = some h → h.pos ≠ k := fun q h hq e => by
              have hqm : q < m := by
                rcases Nat.lt_or_ge q hs.length with hlt | hge
                · omega
                · rw [List.getElem?_eq_none hge] at hq; cases hq
              have hft := HX.out.2 ⟨q, h, hqm, hq, e⟩
              cases hft
            have HR : Hid (FreeR hs k) := .inl ⟨k, hk8, hno, HN.out, rfl⟩
            clear hno
            clear hm'
            go_wp2
            go_ret
            exact ⟨⟨_, HR.out, rfl⟩, rfl⟩
          case true =>
            have HN2 : Hid (∀ j, j < k + 1 → ∃ (m : Nat) (h : Rh), hs[m]? = some h ∧ h.pos = j) := fun j hj => by
              by_cases e : j = k
              · obtain ⟨q, h, _, h2, h3⟩ := HX.out.1 rfl
                exact ⟨q, h, h2, by omega⟩
              · exact HN.out j (by omega)
            clear hm'
            go_wp2
            exact ⟨⟨trivial, k + 1, by omega, by go_num, HN2⟩, by simp [intOf]; omega⟩
    · have HR : Hid (FreeR hs (-1)) := .inr ⟨fun j hj => HN.out j (by omega), rfl⟩
      go_wp2
      go_ret
      exact ⟨⟨_, HR.out, rfl⟩, rfl⟩
end Go.Proofs.YtgalgjmhdbncbabGreat
