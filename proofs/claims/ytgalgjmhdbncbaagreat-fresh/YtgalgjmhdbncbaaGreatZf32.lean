import Derived.Test.YtgalgjmhdbncbaaGreatZf31
import Derived.Test.YtgalgjmhdbncbaaGreatZf29
namespace Go.Proofs.YtgalgjmhdbncbaaGreat
open Go.RowKit
attribute [local go_sem ↓] Go.wp_at_zero Go.wp_at_succ

structure O4 (w W : World) (gr gm gc gt : Nat) (A I : Nat) (n b t key : ByteArray) : Prop where
  r : W.heap[gr]? = some (.cells #[.int .i64 A, .int .i64 I, .string n, .string b, .string t] 52 (0, 0))
  m : Mod W gm gc key
  t : Row W gt 16 145 (by8 (sf t))
  f : Fr [] w W
theorem O4.lt {w W : World} {gr gm gc gt A I : Nat} {n b t key : ByteArray} (s : O4 w W gr gm gc gt A I n b t key) : gr < W.heap.size := by
  rcases Nat.lt_or_ge gr W.heap.size with hlt | hge
  · exact hlt
  · have := s.r; rw [Array.getElem?_eq_none hge] at this; cases this
theorem O4.drew {w W : World} {gr gm gc gt A I : Nat} {n b t key : ByteArray} (s : O4 w W gr gm gc gt A I n b t key) : O4 w W.drew gr gm gc gt A I n b t key := ⟨s.r, s.m.drew, s.t.drew, s.f.drew⟩
theorem O4.below {w W W' : World} {gr gm gc gt A I : Nat} {n b t key : ByteArray} (s : O4 w W gr gm gc gt A I n b t key) (hb : Below W.heap.size W W') : O4 w W' gr gm gc gt A I n b t key := ⟨by rw [hb.block _ s.lt]; exact s.r, s.m.keep hb, s.t.keep hb s.t.lt, s.f.trans (Fr.of_below [] hb (Nat.le_refl _))⟩
attribute [local go_sem ↓] ldw40 stw40 al40
attribute [local go_sem] run_ldT40 ldN_row run_stT40 stN_row stN_z run_al40
attribute [local go_sem] blk_new blk_at blk_old blk_drew blk_setCell blk_setRow alloc_setRow
def openV (key n m b t : ByteArray) : Value := if str 16 (tagF key (firstF key n) m b) = str 16 (sf t) then .tuple #[.string (maskT key (firstF key n) b), .bool true] else .tuple #[.string ⟨#[]⟩, .bool false]
set_option maxRecDepth 100000 in
set_option maxHeartbeats 8000000 in
theorem hopen_mid (g o : Nat) (h : Hd) (A I : Nat) (n b t m : ByteArray) (x : ByteArray) (ok : Bool) (hA : A = h.c.alg) (hc : ClOk h.c) (hs : h.c.st = 1) (hI : I ≤ 65535) (hn : n.size = 12) (hb : b.size ≤ 200) (ht : t.size = 16) (hm : m.size ≤ 180)
    (hop : ∀ gm gc W, Mod W gm gc h.c.key → Calls Tryz.prog 88 #[.pointer (some ⟨gm, 0, none⟩), .string n, .string (headT A I n b ++ m), .string b, .agg (arr 16 (by8 (sf t)))] W fun e w' => e = .returned (.tuple #[.string x, .bool ok]) ∧ Below W.heap.size W w')
    (w : World) (hg : g < w.heap.size) (ha : HdAt w g o h) :
    Calls Tryz.prog 55 #[.pointer (some ⟨g, o, none⟩), recV A I n b t, .string m] w fun e w' => e = .returned (.tuple #[.string x, .bool ok]) ∧ Fr [] w w' := by
  subst hA
  have hkey := hc.key
  rw [hs, if_pos rfl] at hkey
  have halg := hc.alg
  have hmx : h.c.key.size ≤ maxLen := by unfold maxLen; omega
  have hkl : KeyLen h.c.key.size := by unfold KeyLen; omega
  have hbnd := fun W => bound_any h.c.alg I n b t m halg.1 halg.2 hI hn hb (by omega) (by omega) W
  have hof := fun W => of_yes t W ht
  unfold recV at hbnd ⊢
  have HKM : Hid _ := hmx
  have HKL : Hid _ := hkl
  have BND : Hid _ := hbnd
  have MOP : Hid _ := hop
  have BOF : Hid _ := hof
  clear hmx hkl hbnd hop hof hkey hn ht
  have k0 := (Below.refl w.heap.size w).alloc (Nat.le_refl _) (.cells #[.int .i64 h.c.alg, .int .i64 I, .string n, .string b, .string t] 52)
  have ha1 := ha.below k0 hg
  have c8 := ha1.c8
  have c8' := ha.c8
  have F1 := Fr.of_below [] k0 (Nat.le_refl _)
  go_enter Tryz.func55, Tryz.ntmps55
  go_wp2_with fail
  refine (gnew_yes h.c.key HKM.out HKL.out _).mono ?_
  rintro e w4 ⟨gm, gc, rfl, hgm, hgc, M4, b4⟩
  have F4 := F1.trans (Fr.of_below [] b4 (Nat.le_refl _))
  have r4 : w4.heap[w.heap.size]? = some (.cells #[.int .i64 h.c.alg, .int .i64 I, .string n, .string b, .string t] 52 (0, 0)) := by rw [b4.block _ (by simp)]; exact heap_of_new _ _ _ rfl
  have ha4 : HdAt w4 g o h := ha1.below b4 (by simp; omega)
  have y4 := b4.size
  simp at y4
  clear b4 F1 c8 c8' ha1 k0 ha
  obtain ⟨q0, q1, q2, q3, q4⟩ := cells5 r4
  have c1 := ha4.c1
  go_wp2_with fail
  go_region
  have r5 : w4.drew.heap[w.heap.size]? = some (.cells #[.int .i64 h.c.alg, .int .i64 I, .string n, .string b, .string t] 52 (0, 0)) := r4
  have M5 := M4.drew
  have F5 := F4.drew
  have q5 : w4.drew.cell? ⟨w.heap.size, 4, none⟩ = some (.string t) := q4
  clear q0 q1 q2 q3 q4 c1 ha4 r4 M4 F4
  generalize w4.drew = w5 at *
  go_wp2_with fail
  refine (BOF.out _).mono ?_
  rintro e w6 ⟨rfl, b6⟩
  have Z4 : O4 w (w6.alloc (.cells (arr 16 (by8 (sf t))) 145)) w.heap.size gm gc w6.heap.size h.c.alg I n b t h.c.key := by
    have hl5 : w.heap.size < w5.heap.size := by
      rcases Nat.lt_or_ge w.heap.size w5.heap.size with hlt | hge
      · exact hlt
      · rw [Array.getElem?_eq_none hge] at r5; cases r5
    have y6 := b6.size
    refine ⟨heap_of_old _ _ _ _ (by omega) (by rw [b6.block _ hl5]; exact r5), (M5.keep b6).alloc _, Row.new _ _ _ _ _ rfl, (F5.trans (Fr.of_below [] b6 (Nat.le_refl _))).alloc _⟩
  clear b6 r5 M5 F5 q5
  go_wp2_with fail
  generalize w6.alloc (.cells (arr 16 (by8 (sf t))) 145) = W6 at *
  generalize w6.heap.size = gt at *
  obtain ⟨gr, hgr⟩ : ∃ gr, w.heap.size = gr := ⟨_, rfl⟩
  rw [hgr] at Z4 ⊢
  clear hgr
  refine wp_region_held_drew (S := fun W' => O4 w W' gr gm gc gt h.c.alg I n b t h.c.key) (by kernel_rfl) Z4.drew (fun hHeld => ?_)
  refine wpAnyH_take (i := 0) (v := ?v1) rfl (by kernel_rfl) (by kernel_rfl) (by kernel_rfl) (fun _ _ _ h => h) (Or.inl ⟨by rfl, ?y1⟩) (by assumption) ?r1
  case y1 => (intro W' hW; go_simp; try with_reducible rfl)
  try simp only [Act.put, List.getElem_toArray, List.getElem_cons_zero, List.setIfInBounds_toArray, List.set_cons_zero, List.set_cons_succ]
  refine wpAnyH_take (i := 1) (v := ?v2) rfl (by kernel_rfl) (by kernel_rfl) (by kernel_rfl) (fun _ _ _ h => h) (Or.inl ⟨by rfl, ?y2⟩) (by assumption) ?r2
  case y2 => (intro W' hW; go_simp; try with_reducible rfl)
  try simp only [Act.put, List.getElem_toArray, List.getElem_cons_zero, List.getElem_cons_succ, List.setIfInBounds_toArray, List.set_cons_zero, List.set_cons_succ]
  refine wpAnyH_take (i := 2) (v := ?v3) rfl (by kernel_rfl) (by kernel_rfl) (by kernel_rfl) (fun _ _ _ h => h) (Or.inl ⟨by rfl, ?y3⟩) (by assumption) ?r3
  case y3 => (intro W' hW; obtain ⟨q0, q1, q2, q3, q4⟩ := cells5 hW.r; go_simp; try with_reducible rfl)
  try simp only [Act.put, List.getElem_toArray, List.getElem_cons_zero, List.getElem_cons_succ, List.setIfInBounds_toArray, List.set_cons_zero, List.set_cons_succ]
  refine wpAnyH_take (i := 3) (v := ?v4) rfl (by kernel_rfl) (by kernel_rfl) (by kernel_rfl) (fun _ _ _ h => h) (Or.inl ⟨by rfl, ?y4⟩) (by assumption) ?r4
  case y4 => (intro W' hW; obtain ⟨q0, q1, q2, q3, q4⟩ := cells5 hW.r; go_simp; try with_reducible rfl)
  try simp only [Act.put, List.getElem_toArray, List.getElem_cons_zero, List.getElem_cons_succ, List.setIfInBounds_toArray, List.set_cons_zero, List.set_cons_succ]
  refine wpAnyH_take (i := 4) (v := ?v5) rfl (by kernel_rfl) (by kernel_rfl) (by kernel_rfl) (fun _ _ _ h => h) (Or.inl ⟨by rfl, ?y5⟩) (by assumption) ?r5
  case y5 => (intro W' hW; go_simp; try with_reducible rfl)
  try simp only [Act.put, List.getElem_toArray, List.getElem_cons_zero, List.getElem_cons_succ, List.setIfInBounds_toArray, List.set_cons_zero, List.set_cons_succ]
  refine wpAnyH_take (i := 6) (v := ?v6) rfl (by kernel_rfl) (by kernel_rfl) (by kernel_rfl) (fun _ _ _ h => h) (Or.inl ⟨by rfl, ?y6⟩) (by assumption) ?r6
  case y6 => (intro W' hW; go_simp; try with_reducible rfl)
  try simp only [Act.put, List.getElem_toArray, List.getElem_cons_zero, List.getElem_cons_succ, List.setIfInBounds_toArray, List.set_cons_zero, List.set_cons_succ]
  refine wpAnyH_take (i := 7) (v := ?v7) rfl (by kernel_rfl) (by kernel_rfl) (by kernel_rfl) (fun _ _ _ h => h) (Or.inl ⟨by rfl, ?y7⟩) (by assumption) ?r7
  case y7 => (intro W' hW; obtain ⟨q0, q1, q2, q3, q4⟩ := cells5 hW.r; go_simp; try with_reducible rfl)
  try simp only [Act.put, List.getElem_toArray, List.getElem_cons_zero, List.getElem_cons_succ, List.setIfInBounds_toArray, List.set_cons_zero, List.set_cons_succ]
  refine wpAnyH_take (i := 8) (v := ?v8) rfl (by kernel_rfl) (by kernel_rfl) (by kernel_rfl) (fun _ _ _ h => h) (Or.inl ⟨by rfl, ?y8⟩) (by assumption) ?r8
  case y8 => (intro W' hW; have qt := heap_pos hW.t; go_simp; try with_reducible rfl)
  try simp only [Act.put, List.getElem_toArray, List.getElem_cons_zero, List.getElem_cons_succ, List.setIfInBounds_toArray, List.set_cons_zero, List.set_cons_succ]
  refine wpAnyH_ready (rs := [5]) (by kernel_rfl) (by simp) ?_
  refine AllReadyH.cons rfl (fun K hK => ?_) ?nil5
  case nil5 => exact AllReadyH.nil
  go_simp
  refine (BND.out _).mono ?_
  rintro e wb ⟨rfl, bb⟩
  have Zb := O4.below hHeld bb
  go_wp2_with fail
  refine hK.out _ _ Zb (fun hHeld => ?_)
  clear hK K
  refine wpAnyH_ready (rs := [9]) (by kernel_rfl) (by simp) ?_
  refine AllReadyH.cons rfl (fun K hK => ?_) ?nil9
  case nil9 => exact AllReadyH.nil
  go_simp
  refine (MOP.out _ _ _ hHeld.m).mono ?_
  rintro e wc ⟨rfl, bc⟩
  have Zc := O4.below hHeld bc
  go_wp2_with fail
  refine hK.out _ _ Zc (fun hHeld => ?_)
  clear hK K
  refine wpAnyH_take (i := 10) (v := ?v9) rfl (by kernel_rfl) (by kernel_rfl) (by kernel_rfl) (fun _ _ _ h => h) (Or.inl ⟨by rfl, ?y9⟩) (by assumption) ?r9
  case y9 => (intro W' hW; go_simp; try with_reducible rfl)
  try simp only [Act.put, List.getElem_toArray, List.getElem_cons_zero, List.getElem_cons_succ, List.setIfInBounds_toArray, List.set_cons_zero, List.set_cons_succ]
  refine wpAnyH_take (i := 11) (v := ?v10) rfl (by kernel_rfl) (by kernel_rfl) (by kernel_rfl) (fun _ _ _ h => h) (Or.inl ⟨by rfl, ?y10⟩) (by assumption) ?r10
  case y10 => (intro W' hW; go_simp; try with_reducible rfl)
  try simp only [Act.put, List.getElem_toArray, List.getElem_cons_zero, List.getElem_cons_succ, List.setIfInBounds_toArray, List.set_cons_zero, List.set_cons_succ]
  refine wpAnyH_take (i := 12) (v := ?v11) rfl (by kernel_rfl) (by kernel_rfl) (by kernel_rfl) (fun _ _ _ h => h) (Or.inl ⟨by rfl, ?y11⟩) (by assumption) ?r11
  case y11 => (intro W' hW; go_simp; try with_reducible rfl)
  try simp only [Act.put, List.getElem_toArray, List.getElem_cons_zero, List.getElem_cons_succ, List.setIfInBounds_toArray, List.set_cons_zero, List.set_cons_succ]
  refine wpAnyH_take (i := 13) (v := ?v12) rfl (by kernel_rfl) (by kernel_rfl) (by kernel_rfl) (fun _ _ _ h => h) (Or.inl ⟨by rfl, ?y12⟩) (by assumption) ?r12
  case y12 => (intro W' hW; go_simp; try with_reducible rfl)
  try simp only [Act.put, List.getElem_toArray, List.getElem_cons_zero, List.getElem_cons_succ, List.setIfInBounds_toArray, List.set_cons_zero, List.set_cons_succ]
  refine wpAnyH_done (by kernel_rfl) ?_ _
  go_wp2
  go_ret2
  exact ⟨rfl, Zc.f⟩
set_option maxRecDepth 100000 in
set_option maxHeartbeats 8000000 in
theorem hopen_alg (g o : Nat) (h : Hd) (A I : Nat) (n b t m : ByteArray) (hA : A ≠ h.c.alg) (hc : ClOk h.c) (hs : h.c.st = 1)
    (w : World) (hg : g < w.heap.size) (ha : HdAt w g o h) :
    Calls Tryz.prog 55 #[.pointer (some ⟨g, o, none⟩), recV A I n b t, .string m] w fun e w' => e = .returned (.tuple #[.string ⟨#[]⟩, .bool false]) ∧ Fr [] w w' := by
  have hkey := hc.key
  rw [hs, if_pos rfl] at hkey
  have halg := hc.alg
  have hmx : h.c.key.size ≤ maxLen := by unfold maxLen; omega
  have hkl : KeyLen h.c.key.size := by unfold KeyLen; omega
  unfold recV
  have HKM : Hid _ := hmx
  have HKL : Hid _ := hkl
  clear hmx hkl hkey
  have k0 := (Below.refl w.heap.size w).alloc (Nat.le_refl _) (.cells #[.int .i64 A, .int .i64 I, .string n, .string b, .string t] 52)
  have ha1 := ha.below k0 hg
  have c8 := ha1.c8
  have c8' := ha.c8
  have F1 := Fr.of_below [] k0 (Nat.le_refl _)
  go_enter Tryz.func55, Tryz.ntmps55
  go_wp2_with fail
  refine (gnew_yes h.c.key HKM.out HKL.out _).mono ?_
  rintro e w4 ⟨gm, gc, rfl, hgm, hgc, M4, b4⟩
  have F4 := F1.trans (Fr.of_below [] b4 (Nat.le_refl _))
  have r4 : w4.heap[w.heap.size]? = some (.cells #[.int .i64 A, .int .i64 I, .string n, .string b, .string t] 52 (0, 0)) := by rw [b4.block _ (by simp)]; exact heap_of_new _ _ _ rfl
  have ha4 : HdAt w4 g o h := ha1.below b4 (by simp; omega)
  clear b4 F1 c8 c8' ha1 k0 ha
  obtain ⟨q0, q1, q2, q3, q4⟩ := cells5 r4
  have c1 := ha4.c1
  have eA : ((A : Int) == (h.c.alg : Int)) = false := by rw [beq_eq_false_iff_ne]; omega
  go_wp2_with fail
  go_region
  go_wp2
  go_ret2
  exact ⟨rfl, F4.drew⟩
def rA (s : ByteArray) : Nat := (sf s 3).toNat
def rI (s : ByteArray) : Nat := valF (sf s) 4 2
def rN (s : ByteArray) : ByteArray := s.extract 6 18
def rB (s : ByteArray) : ByteArray := s.extract 20 (20 + (sf s 19).toNat)
def rT (s : ByteArray) : ByteArray := s.extract (20 + (sf s 19).toNat) (36 + (sf s 19).toNat)
def tagOk (key rec m : ByteArray) : Prop := str 16 (tagF key (firstF key (rN rec)) (headT (rA rec) (rI rec) (rN rec) (rB rec) ++ m) (rB rec)) = str 16 (sf (rT rec))
def openR (h : Hd) (rec m s : ByteArray) (e : Int) : Prop :=
  ((rA rec ≠ h.c.alg ∨ ¬ tagOk h.c.key rec m) ∧ s = ⟨#[]⟩ ∧ e = 6) ∨ ((rA rec = h.c.alg ∧ tagOk h.c.key rec m) ∧ s = maskT h.c.key (firstF h.c.key (rN rec)) (rB rec) ∧ e = 0)
def openQ (H : Nat → Hd) (rec m s : ByteArray) (e : Int) : Prop :=
  (180 < m.size ∧ s = ⟨#[]⟩ ∧ e = 4) ∨ (m.size ≤ 180 ∧ (∃ p, badAt rec = some p) ∧ s = ⟨#[]⟩ ∧ e = 7) ∨
  (m.size ≤ 180 ∧ badAt rec = none ∧ ∃ (i : Nat) (c : Int), liveP H (rI rec : Nat) i c ∧ ((c ≠ 0 ∧ s = ⟨#[]⟩ ∧ e = c) ∨ (c = 0 ∧ openR (H i) rec m s e)))
def openP (g : Nat) (S : Sto) (H : Nat → Hd) (rec m s : ByteArray) (e : Int) : Prop := (S.tab ≠ some g ∧ s = ⟨#[]⟩ ∧ e = 10) ∨ (S.tab = some g ∧ openQ H rec m s e)
theorem hopen_any (g o : Nat) (h : Hd) (rec m : ByteArray) (hr : badAt rec = none) (hc : ClOk h.c) (hs : h.c.st = 1) (hm : m.size ≤ 180) (w : World) (hg : g < w.heap.size) (ha : HdAt w g o h) :
    Calls Tryz.prog 55 #[.pointer (some ⟨g, o, none⟩), recV (rA rec) (rI rec) (rN rec) (rB rec) (rT rec), .string m] w fun e w' => (∃ (s : ByteArray) (ok : Bool), e = .returned (.tuple #[.string s, .bool ok]) ∧ openR h rec m s (if ok then 0 else 6)) ∧ Fr [] w w' := by
  obtain ⟨hz, hR, hE⟩ := bad_none rec hr
  obtain ⟨a1, a2, a3, a4, a5, a6⟩ := hR
  have hkey := hc.key
  rw [hs, if_pos rfl] at hkey
  have halg := hc.alg
  have hkl : KeyLen h.c.key.size := by unfold KeyLen; omega
  have hmz : (headT (rA rec) (rI rec) (rN rec) (rB rec) ++ m).size ≤ 200 := by unfold headT; rw [ByteArray.size_append, str_size]; omega
  by_cases hA : rA rec = h.c.alg
  · by_cases hT : tagOk h.c.key rec m
    · refine Calls.mono (hopen_mid g o h (rA rec) (rI rec) (rN rec) (rB rec) (rT rec) m _ true hA hc hs a3 a4 a5 a6 hm (fun gm gc W hM => mopen_yes gm gc h.c.key (rN rec) _ (rB rec) (sf (rT rec)) hkl (by show (rN rec).size ≤ 40; have : (rN rec).size = 12 := a4; omega) hmz a5 hT W hM) w hg ha) ?_
      rintro e w' ⟨rfl, hF⟩
      exact ⟨⟨_, true, rfl, .inr ⟨⟨hA, hT⟩, rfl, rfl⟩⟩, hF⟩
    · refine Calls.mono (hopen_mid g o h (rA rec) (rI rec) (rN rec) (rB rec) (rT rec) m _ false hA hc hs a3 a4 a5 a6 hm (fun gm gc W hM => mopen_no gm gc h.c.key (rN rec) _ (rB rec) (sf (rT rec)) hkl (by show (rN rec).size ≤ 40; have : (rN rec).size = 12 := a4; omega) hmz a5 hT W hM) w hg ha) ?_
      rintro e w' ⟨rfl, hF⟩
      exact ⟨⟨_, false, rfl, .inl ⟨.inr hT, rfl, rfl⟩⟩, hF⟩
  · refine Calls.mono (hopen_alg g o h (rA rec) (rI rec) (rN rec) (rB rec) (rT rec) m hA hc hs w hg ha) ?_
    rintro e w' ⟨rfl, hF⟩
    exact ⟨⟨_, false, rfl, .inl ⟨.inl hA, rfl, rfl⟩⟩, hF⟩
end Go.Proofs.YtgalgjmhdbncbaaGreat
