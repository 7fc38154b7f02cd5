import Derived.Test.YtgalgjmhdbncbaaGreatZf39
import Derived.Test.YtgalgjmhdbncbaaGreatZf40
namespace Go.Proofs.YtgalgjmhdbncbaaGreat
open Go.RowKit
attribute [local go_sem ↓] Go.wp_at_zero Go.wp_at_succ

theorem keep_allocF {w : World} {g : Nat} {cs : Array Value} {t : TypeId} (o : Obj) (h : w.heap[g]? = some (.cells cs t (0, 0))) : (w.alloc o).heap[g]? = some (.cells cs t (0, 0)) := keepRow ((Fr.refl [] w).alloc o) h (by simp)
theorem create_anyF (g sx : Nat) (H : Nat → Hd) (S : Sto) (id : Int) (key fix : ByteArray) (s a m : Int) (hk : key.size ≤ maxLen) (hf : fix.size ≤ maxLen) (hl : S.left ≤ 9223372036854775807) (w : World) (h : TabP w g sx H) (hs : StoP w sx S) (ht : TabIn w S) :
    Calls Tryz.prog 44 #[ptr g, .int .i64 id, .string key, .string fix, .agg #[.int .i64 s, .int .i64 a, .int .i64 m]] w fun e w' => ∃ (r : Int) (S' : Sto) (H' : Nat → Hd), e = .returned (.int .i64 r) ∧ createP g S H id key fix s a m r S' H' ∧ StoP w' sx S' ∧ TabP w' g sx H' ∧ Fr [g, sx] w w' := by
  by_cases hov : S.tab = some g
  · by_cases hg : 0 ≤ id ∧ id ≤ 65535 ∧ fix.size = 4 ∧ CfgOk s a m
    · have hg' := hg
      obtain ⟨i1, i2, hf4, ⟨⟨s1, s2⟩, ⟨a1, a2⟩, ⟨m1, m2⟩⟩⟩ := hg'
      obtain ⟨I, rfl⟩ : ∃ I : Nat, id = I := ⟨id.toNat, by omega⟩
      obtain ⟨s, rfl⟩ : ∃ I : Nat, s = I := ⟨s.toNat, by omega⟩
      obtain ⟨a, rfl⟩ : ∃ I : Nat, a = I := ⟨a.toNat, by omega⟩
      obtain ⟨m, rfl⟩ : ∃ I : Nat, m = I := ⟨m.toNat, by omega⟩
      exact create_go g sx H S I key fix s a m hov (by omega) hf4 hg.2.2.2 hk hl w h hs ht
    · refine Calls.mono (create_arg g sx H S id key fix s a m hov hg hf w h hs ht) ?_
      rintro e w' ⟨rfl, hF⟩
      exact ⟨1, S, H, rfl, .inr ⟨hov, .inl ⟨hg, rfl, rfl, rfl⟩⟩, Row.fr hs hF (by simp), Row.fr h hF (by simp), hF.sub (by simp)⟩
  · refine Calls.mono (create_over g sx H S id key fix s a m hov w h hs ht) ?_
    rintro e w' ⟨rfl, hF⟩
    exact ⟨10, S, H, rfl, .inl ⟨hov, rfl, rfl, rfl⟩, Row.fr hs hF (by simp), Row.fr h hF (by simp), hF.sub (by simp)⟩

set_option maxHeartbeats 400000 in
theorem keyOf_any (s : ByteArray) (c : Int) (hs : s.size ≤ maxLen) (h1 : -9223372036854775808 ≤ c) (h2 : c ≤ 9223372036854775807) (w : World) :
    Calls Tryz.prog 45 #[.string s, .int .i64 c] w fun e w' => e = .returned (.string (str (16 + 8 * pickV c 3) (sf s))) ∧ Below w.heap.size w w' := by
  have hp := fun W => pickv_any c 3 h1 h2 (by omega) (by omega) W
  have hlt := pickV_lt c 3 (by omega)
  obtain ⟨r, hr⟩ : ∃ r, pickV c 3 = r := ⟨_, rfl⟩
  rw [hr] at hp hlt ⊢
  have hj := fun W => just_any s (16 + 8 * r) (by omega) hs W
  rw [show ((16 + 8 * r : Nat) : Int) = 16 + 8 * (r : Int) by omega] at hj
  have HP : Hid _ := hp
  have HJ : Hid _ := hj
  clear hp hj hr
  go_enter Tryz.func45, Tryz.ntmps45
  go_wp2_with fail
  refine (HP.out _).mono ?_
  rintro e w1 ⟨rfl, rfl⟩
  go_wp2_with fail
  refine (HJ.out _).mono ?_
  rintro e w2 ⟨rfl, b2⟩
  have HB : Hid _ := b2
  clear b2
  go_wp2
  go_ret
  exact ⟨rfl, HB.out⟩
def digT (id : Nat) : ByteArray := ⟨#[UInt8.ofNat (48 + id)]⟩
theorem conv1 (W : World) (b id : Nat) (hid : id < 4) (h : W.heap[b]? = some (.cells #[.int .u8 (48 + (id : Int))] 5 (0, 0))) : Sem.run Tryz.prog (convert 105 9 (.slice (some ⟨b, 0, none⟩) 1 1)) W = .ok (.string (digT id)) W := by
  have := run_convert_bytes_back (P := Tryz.prog) W 105 9 5 ⟨b, 0, none⟩ 1 [UInt8.ofNat (48 + id)] Tryz.underlying105 Tryz.underlying5 Tryz.underlying9 (fun j hj => by
    have hj0 : j = 0 := by simp at hj; exact hj
    subst hj0
    have e : ((UInt8.ofNat (48 + id)).toNat : Int) = 48 + (id : Int) := by rw [byte_nat _ (by omega)]; omega
    have hadd : (⟨b, 0, none⟩ : Addr).add 0 = ⟨b, 0, none⟩ := by unfold Addr.add; split <;> simp_all
    rw [hadd, cell_of_row _ _ 0 _ _ _ h]
    show some (Value.int .u8 (48 + (id : Int))) = some (Value.int .u8 ((UInt8.ofNat (48 + id)).toNat : Int))
    rw [e])
  exact this
theorem cut5 {A1 A2 A3 A4 A5 : Type} {c : A1 → A2 → A3 → A4 → A5 → Prop} {P : A1 → A2 → A3 → Prop} {Q : Prop} (main : (∀ a1 a2 a3 a4 a5, c a1 a2 a3 a4 a5 → P a1 a2 a3) → Q) (tail : ∀ a1 a2 a3 a4 a5, c a1 a2 a3 a4 a5 → P a1 a2 a3) : Q := main tail
def MakeQ (S : Sto) (K : Nat → Ky) (id s : Nat) (S' : Sto) (H' : Nat → Hd) (K' : Nat → Ky) (ov' : Bool) : Prop :=
  (K id).there = 1 ∨ S.left = 1 ∨ (ov' = false ∧ S'.left = S.left - 1 ∧ K' = setK K id ⟨1, 0, s, 0⟩ ∧ ∃ i, i < 8 ∧ hit H' id i ∧ (H' i).ctr = 0)
structure MkC (w W : World) (B g sx t : Nat) (S : Sto) (H : Nat → Hd) (K : Nat → Ky) (G : List Gv) (sg : Value) (id p q : Nat) (key : ByteArray) (r : Int) (S' : Sto) (H' : Nat → Hd) : Prop where
  c : createP t S H id key (fixT id) (1 + (p : Int)) (1 + (q : Int)) 20 r S' H'
  s : StoP W sx S'
  tp : TabP W t sx H'
  r : RgR W g sx t K sg false
  o : W.ownsRow B 72 3 sg G.length (gvL G)
  bel : Below B w W
  bb : B ≤ W.heap.size
  cf : W.heap[w.heap.size + 1]? = some (.cells #[.int .i64 (1 + (p : Int)), .int .i64 (1 + (q : Int)), .int .i64 20] 50 (0, 0))
  lt : w.heap.size + 1 < W.heap.size
set_option maxRecDepth 100000 in
set_option maxHeartbeats 8000000 in
theorem makes_any (w : World) (B g sx t : Nat) (S : Sto) (H : Nat → Hd) (K : Nat → Ky) (G : List Gv) (sg : Value) (top : Nat → Nat) (id : Nat) (o : StA) (hid : id < 4) (hb1 : -9223372036854775808 ≤ o.b) (hb2 : o.b ≤ 9223372036854775807) (hc1 : -9223372036854775808 ≤ o.c) (hc2 : o.c ≤ 9223372036854775807) (hs : o.s.size ≤ maxLen) (hB : B ≤ w.heap.size) (h : Rng w B g sx t S H K G false sg top) :
    Calls Tryz.prog 20 #[ptr g, .int .i64 id, .agg (stC o)] w fun e w' => e = .returned (.bool true) ∧ RgE w w' B g sx t G sg top (fun S' H' K' ov' => MakeQ S K id (1 + pickV o.b 12) S' H' K' ov') := by
  have hp1 := fun W => pickv_any o.b 12 hb1 hb2 (by omega) (by omega) W
  have hp2 := fun W => pickv_any o.c 5 hc1 hc2 (by omega) (by omega) W
  have hky := fun W => keyOf_any o.s o.c hs hc1 hc2 W
  have hp := pickV_lt o.b 12 (by omega)
  have hq := pickV_lt o.c 5 (by omega)
  have hm := pickV_lt o.c 3 (by omega)
  obtain ⟨p, hpE⟩ : ∃ r, pickV o.b 12 = r := ⟨_, rfl⟩
  obtain ⟨q, hqE⟩ : ∃ r, pickV o.c 5 = r := ⟨_, rfl⟩
  obtain ⟨key, hkE⟩ : ∃ k, str (16 + 8 * pickV o.c 3) (sf o.s) = k := ⟨_, rfl⟩
  have hkz : key.size = 16 + 8 * pickV o.c 3 := by rw [← hkE, str_size]
  have hkl : KeyLen key.size := by unfold KeyLen; omega
  rw [hkE] at hky
  rw [hpE] at hp hp1 ⊢
  rw [hqE] at hq hp2
  have hcr := fun W hf => create_anyF t sx H S id key (fixT id) (1 + (p : Int)) (1 + (q : Int)) 20 (by unfold maxLen; omega) (by rw [fixT_size]; decide) h.i.le W (Row.fr h.tp hf (by simp)) (Row.fr h.s hf (by simp)) (h.fr0 hf).tabIn
  have hc1' : ∀ W, Fr [] w W → W.cell? ⟨g, 1, none⟩ = some (.pointer (some ⟨t, 0, none⟩)) := fun W hf => (h.r.fr hf (by simp)).at1
  have hfx : (⟨#[102, 105, 120]⟩ : ByteArray) ++ digT id = fixT id := rfl
  unfold ptr at hcr ⊢
  unfold stC
  have H1 : Hid _ := hp1
  have H2 : Hid _ := hp2
  have HK : Hid _ := hky
  have HC : Hid _ := hcr
  have HC1 : Hid _ := hc1'
  have HX : Hid _ := And.intro h hkl
  have HFX : Hid _ := hfx
  have hidI : (id : Int) < 4 := by omega
  have hwp : IntKind.i64.wrap (1 + (p : Int)) = 1 + (p : Int) := by rw [show 1 + (p : Int) = ((1 + p : Nat) : Int) by omega]; exact wrap_sm _ (by omega)
  have hwq : IntKind.i64.wrap (1 + (q : Int)) = 1 + (q : Int) := by rw [show 1 + (q : Int) = ((1 + q : Nat) : Int) by omega]; exact wrap_sm _ (by omega)
  have lw := h.lt
  have HLW : Hid _ := lw
  clear hp1 hp2 hky hcr hc1' h hkl hm hkE hkz hpE hqE hs hfx lw
  go_enter Tryz.func20, Tryz.ntmps20
  go_wp2_with fail
  have HQ0 : Hid (Fr [] w (w.alloc (.cells #[.int .i64 o.kind, .int .i64 o.a, .int .i64 o.b, .int .i64 o.c, .string o.s, .bool o.yes] 31)).drew ∧ (w.alloc (.cells #[.int .i64 o.kind, .int .i64 o.a, .int .i64 o.b, .int .i64 o.c, .string o.s, .bool o.yes] 31)).drew.heap[w.heap.size]? = some (.cells #[.int .i64 o.kind, .int .i64 o.a, .int .i64 o.b, .int .i64 o.c, .string o.s, .bool o.yes] 31 (0, 0))) := ⟨((Fr.refl _ _).alloc _).drew, heap_of_new _ _ _ rfl⟩
  refine' (fun (HT : ∀ W : World, (Fr [] w W ∧ W.heap[w.heap.size]? = some (.cells #[.int .i64 o.kind, .int .i64 o.a, .int .i64 o.b, .int .i64 o.c, .string o.s, .bool o.yes] 31 (0, 0))) ∧ W.heap[w.heap.size + 1]? = some (.cells #[.int .i64 (1 + (p : Int)), .int .i64 (1 + (q : Int)), .int .i64 20] 50 (0, 0)) → (_ : World → Prop) W) => ?main) ?tail
  case main =>
    refine wp_region_held_drew (S := fun W' => Fr [] w W' ∧ W'.heap[w.heap.size]? = some (.cells #[.int .i64 o.kind, .int .i64 o.a, .int .i64 o.b, .int .i64 o.c, .string o.s, .bool o.yes] 31 (0, 0))) (by kernel_rfl) HQ0.out (fun hHeld => ?_)
    refine wpAnyH_take (i := 0) (v := ?v1) rfl (by kernel_rfl) (by kernel_rfl) (by kernel_rfl) (fun _ _ _ h => h) (Or.inl ⟨by rfl, ?y1⟩) (by assumption) ?r1
    case y1 => (intro W' hW; go_simp; try with_reducible rfl)
    try simp only [Act.put, List.getElem_toArray, List.getElem_cons_zero, List.setIfInBounds_toArray, List.set_cons_zero, List.set_cons_succ]
    refine wpAnyH_take (i := 1) (v := ?v2) rfl (by kernel_rfl) (by kernel_rfl) (by kernel_rfl) (fun _ _ _ h => h) (Or.inl ⟨by rfl, ?y2⟩) (by assumption) ?r2
    case y2 => (intro W' hW; obtain ⟨z0, z1, z2, z3, z4, z5⟩ := cells6S hW.2; go_simp; try with_reducible rfl)
    try simp only [Act.put, List.getElem_toArray, List.getElem_cons_zero, List.getElem_cons_succ, List.setIfInBounds_toArray, List.set_cons_zero, List.set_cons_succ]
    refine wpAnyH_take (i := 4) (v := ?v3) rfl (by kernel_rfl) (by kernel_rfl) (by kernel_rfl) (fun _ _ _ h => h) (Or.inl ⟨by rfl, ?y3⟩) (by assumption) ?r3
    case y3 => (intro W' hW; go_simp; try with_reducible rfl)
    try simp only [Act.put, List.getElem_toArray, List.getElem_cons_zero, List.getElem_cons_succ, List.setIfInBounds_toArray, List.set_cons_zero, List.set_cons_succ]
    refine wpAnyH_take (i := 5) (v := ?v4) rfl (by kernel_rfl) (by kernel_rfl) (by kernel_rfl) (fun _ _ _ h => h) (Or.inl ⟨by rfl, ?y4⟩) (by assumption) ?r4
    case y4 => (intro W' hW; obtain ⟨z0, z1, z2, z3, z4, z5⟩ := cells6S hW.2; go_simp; try with_reducible rfl)
    try simp only [Act.put, List.getElem_toArray, List.getElem_cons_zero, List.getElem_cons_succ, List.setIfInBounds_toArray, List.set_cons_zero, List.set_cons_succ]
    refine wpAnyH_ready (rs := [2, 9]) (by kernel_rfl) (by simp) ?_
    refine AllReadyH.cons rfl (fun KK hK => ?_) (AllReadyH.cons rfl (fun KK hK => ?_) AllReadyH.nil)
    · skip
      go_simp
      refine (H1.out _).mono ?_
      rintro e w1 ⟨rfl, rfl⟩
      go_wp2_with fail
      refine hK.out _ _ hHeld (fun hHeld => ?_)
      clear hK KK
      refine wpAnyH_take (i := 3) (v := ?v5) rfl (by kernel_rfl) (by kernel_rfl) (by kernel_rfl) (fun _ _ _ h => h) (Or.inl ⟨by rfl, ?y5⟩) (by assumption) ?r5
      case y5 => (intro W' hW; go_simp; try with_reducible rfl)
      try simp only [Act.put, List.getElem_toArray, List.getElem_cons_zero, List.getElem_cons_succ, List.setIfInBounds_toArray, List.set_cons_zero, List.set_cons_succ]
      refine wpAnyH_ready (rs := [6, 9]) (by kernel_rfl) (by simp) ?_
      refine AllReadyH.cons rfl (fun KK hK => ?_) (AllReadyH.cons rfl (fun KK hK => ?_) AllReadyH.nil)
      · skip
        go_simp
        refine (H2.out _).mono ?_
        rintro e w1 ⟨rfl, rfl⟩
        go_wp2_with fail
        refine hK.out _ _ hHeld (fun hHeld => ?_)
        clear hK KK
        refine wpAnyH_take (i := 7) (v := ?v6) rfl (by kernel_rfl) (by kernel_rfl) (by kernel_rfl) (fun _ _ _ h => h) (Or.inl ⟨by rfl, ?y6⟩) (by assumption) ?r6
        case y6 => (intro W' hW; go_simp; try with_reducible rfl)
        try simp only [Act.put, List.getElem_toArray, List.getElem_cons_zero, List.getElem_cons_succ, List.setIfInBounds_toArray, List.set_cons_zero, List.set_cons_succ]
        refine wpAnyH_take (i := 8) (v := ?v7) rfl (by kernel_rfl) (by kernel_rfl) (by kernel_rfl) (fun _ _ _ h => h) (Or.inl ⟨by rfl, ?y7⟩) (by assumption) ?r7
        case y7 => (intro W' hW; go_simp; try with_reducible rfl)
        try simp only [Act.put, List.getElem_toArray, List.getElem_cons_zero, List.getElem_cons_succ, List.setIfInBounds_toArray, List.set_cons_zero, List.set_cons_succ]
        refine wpAnyH_ready (rs := [9]) (by kernel_rfl) (by simp) ?_
        refine AllReadyH.cons rfl (fun KK hK => ?_) AllReadyH.nil
        go_simp
        refine hK.out _ _ ⟨Fr.alloc hHeld.1 _, keep_allocF _ hHeld.2⟩ (fun hHeld => ?_)
        clear hK KK
        refine wpAnyH_ready (rs := [10]) (by kernel_rfl) (by simp) ?_
        refine AllReadyH.cons rfl (fun KK hK => ?_) AllReadyH.nil
        go_simp
        have S3 : Fr [] w ((w.alloc (.cells #[.int .i64 o.kind, .int .i64 o.a, .int .i64 o.b, .int .i64 o.c, .string o.s, .bool o.yes] 31)).alloc (.cells #[.int .i64 (1 + (p : Int)), .int .i64 (1 + (q : Int)), .int .i64 20] 50)).drew ∧ ((w.alloc (.cells #[.int .i64 o.kind, .int .i64 o.a, .int .i64 o.b, .int .i64 o.c, .string o.s, .bool o.yes] 31)).alloc (.cells #[.int .i64 (1 + (p : Int)), .int .i64 (1 + (q : Int)), .int .i64 20] 50)).drew.heap[w.heap.size]? = some (.cells #[.int .i64 o.kind, .int .i64 o.a, .int .i64 o.b, .int .i64 o.c, .string o.s, .bool o.yes] 31 (0, 0)) := ⟨(((Fr.refl _ _).alloc _).alloc _).drew, keep_allocF _ (heap_of_new _ _ _ rfl)⟩
        have S4 : ((w.alloc (.cells #[.int .i64 o.kind, .int .i64 o.a, .int .i64 o.b, .int .i64 o.c, .string o.s, .bool o.yes] 31)).alloc (.cells #[.int .i64 (1 + (p : Int)), .int .i64 (1 + (q : Int)), .int .i64 20] 50)).drew.heap[w.heap.size + 1]? = some (.cells #[.int .i64 (1 + (p : Int)), .int .i64 (1 + (q : Int)), .int .i64 20] 50 (0, 0)) := heap_of_new _ _ _ (by simp)
        refine hK.out _ _ S3 (fun hHeld => ?_)
        clear hK KK
        refine wpAnyH_done (by kernel_rfl) ?_ _
        have HS : Hid _ := And.intro S3 S4
        clear S3 S4 hHeld
        generalize ((w.alloc (.cells #[.int .i64 o.kind, .int .i64 o.a, .int .i64 o.b, .int .i64 o.c, .string o.s, .bool o.yes] 31)).alloc (.cells #[.int .i64 (1 + (p : Int)), .int .i64 (1 + (q : Int)), .int .i64 20] 50)).drew = W at HS ⊢
        exact HT W HS.out
      · skip
        go_simp
        refine hK.out _ _ ⟨Fr.alloc hHeld.1 _, keep_allocF _ hHeld.2⟩ (fun hHeld => ?_)
        clear hK KK
        refine wpAnyH_ready (rs := [6]) (by kernel_rfl) (by simp) ?_
        refine AllReadyH.cons rfl (fun KK hK => ?_) AllReadyH.nil
        go_simp
        refine (H2.out _).mono ?_
        rintro e w1 ⟨rfl, rfl⟩
        go_wp2_with fail
        refine hK.out _ _ hHeld (fun hHeld => ?_)
        clear hK KK
        refine wpAnyH_take (i := 7) (v := ?v8) rfl (by kernel_rfl) (by kernel_rfl) (by kernel_rfl) (fun _ _ _ h => h) (Or.inl ⟨by rfl, ?y8⟩) (by assumption) ?r8
        case y8 => (intro W' hW; go_simp; try with_reducible rfl)
        try simp only [Act.put, List.getElem_toArray, List.getElem_cons_zero, List.getElem_cons_succ, List.setIfInBounds_toArray, List.set_cons_zero, List.set_cons_succ]
        refine wpAnyH_take (i := 8) (v := ?v9) rfl (by kernel_rfl) (by kernel_rfl) (by kernel_rfl) (fun _ _ _ h => h) (Or.inl ⟨by rfl, ?y9⟩) (by assumption) ?r9
        case y9 => (intro W' hW; go_simp; try with_reducible rfl)
        try simp only [Act.put, List.getElem_toArray, List.getElem_cons_zero, List.getElem_cons_succ, List.setIfInBounds_toArray, List.set_cons_zero, List.set_cons_succ]
        refine wpAnyH_ready (rs := [10]) (by kernel_rfl) (by simp) ?_
        refine AllReadyH.cons rfl (fun KK hK => ?_) AllReadyH.nil
        go_simp
        have S3 : Fr [] w ((w.alloc (.cells #[.int .i64 o.kind, .int .i64 o.a, .int .i64 o.b, .int .i64 o.c, .string o.s, .bool o.yes] 31)).alloc (.cells #[.int .i64 (1 + (p : Int)), .int .i64 (1 + (q : Int)), .int .i64 20] 50)).drew ∧ ((w.alloc (.cells #[.int .i64 o.kind, .int .i64 o.a, .int .i64 o.b, .int .i64 o.c, .string o.s, .bool o.yes] 31)).alloc (.cells #[.int .i64 (1 + (p : Int)), .int .i64 (1 + (q : Int)), .int .i64 20] 50)).drew.heap[w.heap.size]? = some (.cells #[.int .i64 o.kind, .int .i64 o.a, .int .i64 o.b, .int .i64 o.c, .string o.s, .bool o.yes] 31 (0, 0)) := ⟨(((Fr.refl _ _).alloc _).alloc _).drew, keep_allocF _ (heap_of_new _ _ _ rfl)⟩
        have S4 : ((w.alloc (.cells #[.int .i64 o.kind, .int .i64 o.a, .int .i64 o.b, .int .i64 o.c, .string o.s, .bool o.yes] 31)).alloc (.cells #[.int .i64 (1 + (p : Int)), .int .i64 (1 + (q : Int)), .int .i64 20] 50)).drew.heap[w.heap.size + 1]? = some (.cells #[.int .i64 (1 + (p : Int)), .int .i64 (1 + (q : Int)), .int .i64 20] 50 (0, 0)) := heap_of_new _ _ _ (by simp)
        refine hK.out _ _ S3 (fun hHeld => ?_)
        clear hK KK
        refine wpAnyH_done (by kernel_rfl) ?_ _
        have HS : Hid _ := And.intro S3 S4
        clear S3 S4 hHeld
        generalize ((w.alloc (.cells #[.int .i64 o.kind, .int .i64 o.a, .int .i64 o.b, .int .i64 o.c, .string o.s, .bool o.yes] 31)).alloc (.cells #[.int .i64 (1 + (p : Int)), .int .i64 (1 + (q : Int)), .int .i64 20] 50)).drew = W at HS ⊢
        exact HT W HS.out
    · skip
      go_simp
      refine hK.out _ _ ⟨Fr.alloc hHeld.1 _, keep_allocF _ hHeld.2⟩ (fun hHeld => ?_)
      clear hK KK
      refine wpAnyH_ready (rs := [2]) (by kernel_rfl) (by simp) ?_
      refine AllReadyH.cons rfl (fun KK hK => ?_) AllReadyH.nil
      go_simp
      refine (H1.out _).mono ?_
      rintro e w1 ⟨rfl, rfl⟩
      go_wp2_with fail
      refine hK.out _ _ hHeld (fun hHeld => ?_)
      clear hK KK
      refine wpAnyH_take (i := 3) (v := ?v10) rfl (by kernel_rfl) (by kernel_rfl) (by kernel_rfl) (fun _ _ _ h => h) (Or.inl ⟨by rfl, ?y10⟩) (by assumption) ?r10
      case y10 => (intro W' hW; go_simp; try with_reducible rfl)
      try simp only [Act.put, List.getElem_toArray, List.getElem_cons_zero, List.getElem_cons_succ, List.setIfInBounds_toArray, List.set_cons_zero, List.set_cons_succ]
      refine wpAnyH_ready (rs := [6]) (by kernel_rfl) (by simp) ?_
      refine AllReadyH.cons rfl (fun KK hK => ?_) AllReadyH.nil
      go_simp
      refine (H2.out _).mono ?_
      rintro e w1 ⟨rfl, rfl⟩
      go_wp2_with fail
      refine hK.out _ _ hHeld (fun hHeld => ?_)
      clear hK KK
      refine wpAnyH_take (i := 7) (v := ?v11) rfl (by kernel_rfl) (by kernel_rfl) (by kernel_rfl) (fun _ _ _ h => h) (Or.inl ⟨by rfl, ?y11⟩) (by assumption) ?r11
      case y11 => (intro W' hW; go_simp; try with_reducible rfl)
      try simp only [Act.put, List.getElem_toArray, List.getElem_cons_zero, List.getElem_cons_succ, List.setIfInBounds_toArray, List.set_cons_zero, List.set_cons_succ]
      refine wpAnyH_take (i := 8) (v := ?v12) rfl (by kernel_rfl) (by kernel_rfl) (by kernel_rfl) (fun _ _ _ h => h) (Or.inl ⟨by rfl, ?y12⟩) (by assumption) ?r12
      case y12 => (intro W' hW; go_simp; try with_reducible rfl)
      try simp only [Act.put, List.getElem_toArray, List.getElem_cons_zero, List.getElem_cons_succ, List.setIfInBounds_toArray, List.set_cons_zero, List.set_cons_succ]
      refine wpAnyH_ready (rs := [10]) (by kernel_rfl) (by simp) ?_
      refine AllReadyH.cons rfl (fun KK hK => ?_) AllReadyH.nil
      go_simp
      have S3 : Fr [] w ((w.alloc (.cells #[.int .i64 o.kind, .int .i64 o.a, .int .i64 o.b, .int .i64 o.c, .string o.s, .bool o.yes] 31)).alloc (.cells #[.int .i64 (1 + (p : Int)), .int .i64 (1 + (q : Int)), .int .i64 20] 50)).drew ∧ ((w.alloc (.cells #[.int .i64 o.kind, .int .i64 o.a, .int .i64 o.b, .int .i64 o.c, .string o.s, .bool o.yes] 31)).alloc (.cells #[.int .i64 (1 + (p : Int)), .int .i64 (1 + (q : Int)), .int .i64 20] 50)).drew.heap[w.heap.size]? = some (.cells #[.int .i64 o.kind, .int .i64 o.a, .int .i64 o.b, .int .i64 o.c, .string o.s, .bool o.yes] 31 (0, 0)) := ⟨(((Fr.refl _ _).alloc _).alloc _).drew, keep_allocF _ (heap_of_new _ _ _ rfl)⟩
      have S4 : ((w.alloc (.cells #[.int .i64 o.kind, .int .i64 o.a, .int .i64 o.b, .int .i64 o.c, .string o.s, .bool o.yes] 31)).alloc (.cells #[.int .i64 (1 + (p : Int)), .int .i64 (1 + (q : Int)), .int .i64 20] 50)).drew.heap[w.heap.size + 1]? = some (.cells #[.int .i64 (1 + (p : Int)), .int .i64 (1 + (q : Int)), .int .i64 20] 50 (0, 0)) := heap_of_new _ _ _ (by simp)
      refine hK.out _ _ S3 (fun hHeld => ?_)
      clear hK KK
      refine wpAnyH_done (by kernel_rfl) ?_ _
      have HS : Hid _ := And.intro S3 S4
      clear S3 S4 hHeld
      generalize ((w.alloc (.cells #[.int .i64 o.kind, .int .i64 o.a, .int .i64 o.b, .int .i64 o.c, .string o.s, .bool o.yes] 31)).alloc (.cells #[.int .i64 (1 + (p : Int)), .int .i64 (1 + (q : Int)), .int .i64 20] 50)).drew = W at HS ⊢
      exact HT W HS.out
  case tail =>
    intro W HS1
    have HS : Hid _ := HS1
    clear HS1
    go_wp2_with fail
    have hwi : IntKind.i64.wrap (48 + (id : Int)) = 48 + (id : Int) := by rw [show 48 + (id : Int) = ((48 + id : Nat) : Int) by omega]; exact wrap_sm _ (by omega)
    have hwu : IntKind.u8.wrap (48 + (id : Int)) = 48 + (id : Int) := by rcases (by omega : id = 0 ∨ id = 1 ∨ id = 2 ∨ id = 3) with rfl | rfl | rfl | rfl <;> rfl
    refine' cut5 (c := fun (W : World) (_ : Value) (r : Int) (S' : Sto) (H' : Nat → Hd) => MkC w W B g sx t S H K G sg id p q key r S' H') (fun HT2 => ?main2) ?tail2
    case main2 =>
      have HG : Hid ((Fr [] w W.drew ∧ W.drew.heap[w.heap.size]? = some (.cells #[.int .i64 o.kind, .int .i64 o.a, .int .i64 o.b, .int .i64 o.c, .string o.s, .bool o.yes] 31 (0, 0))) ∧ W.drew.heap[w.heap.size + 1]? = some (.cells #[.int .i64 (1 + (p : Int)), .int .i64 (1 + (q : Int)), .int .i64 20] 50 (0, 0))) := ⟨⟨HS.out.1.1.drew, HS.out.1.2⟩, HS.out.2⟩
      refine wp_region_held_drew (S := fun W' => (W'.cell? ⟨g, 1, none⟩ = some (.pointer (some ⟨t, 0, none⟩)) ∧ W'.heap[w.heap.size]? = some (.cells #[.int .i64 o.kind, .int .i64 o.a, .int .i64 o.b, .int .i64 o.c, .string o.s, .bool o.yes] 31 (0, 0))) ∧ W'.heap[w.heap.size + 1]? = some (.cells #[.int .i64 (1 + (p : Int)), .int .i64 (1 + (q : Int)), .int .i64 20] 50 (0, 0))) (by kernel_rfl) ⟨⟨HC1.out _ HG.out.1.1, HG.out.1.2⟩, HG.out.2⟩ (fun hHeld => ?_)
      refine wpAnyH_take (i := 0) (v := ?v13) rfl (by kernel_rfl) (by kernel_rfl) (by kernel_rfl) (fun _ _ _ h => h) (Or.inl ⟨by rfl, ?y13⟩) (by assumption) ?r13
      case y13 => (intro W' hW; go_simp; try with_reducible rfl)
      try simp only [Act.put, List.getElem_toArray, List.getElem_cons_zero, List.setIfInBounds_toArray, List.set_cons_zero, List.set_cons_succ]
      refine wpAnyH_take (i := 1) (v := ?v14) rfl (by kernel_rfl) (by kernel_rfl) (by kernel_rfl) (fun _ _ _ h => h) (Or.inl ⟨by rfl, ?y14⟩) (by assumption) ?r14
      case y14 => (intro W' hW; go_simp; try with_reducible rfl)
      try simp only [Act.put, List.getElem_toArray, List.getElem_cons_zero, List.getElem_cons_succ, List.setIfInBounds_toArray, List.set_cons_zero, List.set_cons_succ]
      refine wpAnyH_take (i := 2) (v := ?v15) rfl (by kernel_rfl) (by kernel_rfl) (by kernel_rfl) (fun _ _ _ h => h) (Or.inl ⟨by rfl, ?y15⟩) (by assumption) ?r15
      case y15 => (intro W' hW; go_simp; try with_reducible rfl)
      try simp only [Act.put, List.getElem_toArray, List.getElem_cons_zero, List.getElem_cons_succ, List.setIfInBounds_toArray, List.set_cons_zero, List.set_cons_succ]
      refine wpAnyH_take (i := 3) (v := ?v16) rfl (by kernel_rfl) (by kernel_rfl) (by kernel_rfl) (fun _ _ _ h => h) (Or.inl ⟨by rfl, ?y16⟩) (by assumption) ?r16
      case y16 => (intro W' hW; have c1 := hW.1.1; go_simp; try with_reducible rfl)
      try simp only [Act.put, List.getElem_toArray, List.getElem_cons_zero, List.getElem_cons_succ, List.setIfInBounds_toArray, List.set_cons_zero, List.set_cons_succ]
      refine wpAnyH_take (i := 4) (v := ?v17) rfl (by kernel_rfl) (by kernel_rfl) (by kernel_rfl) (fun _ _ _ h => h) (Or.inl ⟨by rfl, ?y17⟩) (by assumption) ?r17
      case y17 => (intro W' hW; go_simp; try with_reducible rfl)
      try simp only [Act.put, List.getElem_toArray, List.getElem_cons_zero, List.getElem_cons_succ, List.setIfInBounds_toArray, List.set_cons_zero, List.set_cons_succ]
      refine wpAnyH_take (i := 5) (v := ?v18) rfl (by kernel_rfl) (by kernel_rfl) (by kernel_rfl) (fun _ _ _ h => h) (Or.inl ⟨by rfl, ?y18⟩) (by assumption) ?r18
      case y18 => (intro W' hW; go_simp; try with_reducible rfl)
      try simp only [Act.put, List.getElem_toArray, List.getElem_cons_zero, List.getElem_cons_succ, List.setIfInBounds_toArray, List.set_cons_zero, List.set_cons_succ]
      refine wpAnyH_take (i := 6) (v := ?v19) rfl (by kernel_rfl) (by kernel_rfl) (by kernel_rfl) (fun _ _ _ h => h) (Or.inl ⟨by rfl, ?y19⟩) (by assumption) ?r19
      case y19 => (intro W' hW; obtain ⟨z0, z1, z2, z3, z4, z5⟩ := cells6S hW.1.2; go_simp; try with_reducible rfl)
      try simp only [Act.put, List.getElem_toArray, List.getElem_cons_zero, List.getElem_cons_succ, List.setIfInBounds_toArray, List.set_cons_zero, List.set_cons_succ]
      refine wpAnyH_take (i := 7) (v := ?v20) rfl (by kernel_rfl) (by kernel_rfl) (by kernel_rfl) (fun _ _ _ h => h) (Or.inl ⟨by rfl, ?y20⟩) (by assumption) ?r20
      case y20 => (intro W' hW; go_simp; try with_reducible rfl)
      try simp only [Act.put, List.getElem_toArray, List.getElem_cons_zero, List.getElem_cons_succ, List.setIfInBounds_toArray, List.set_cons_zero, List.set_cons_succ]
      refine wpAnyH_take (i := 8) (v := ?v21) rfl (by kernel_rfl) (by kernel_rfl) (by kernel_rfl) (fun _ _ _ h => h) (Or.inl ⟨by rfl, ?y21⟩) (by assumption) ?r21
      case y21 => (intro W' hW; obtain ⟨z0, z1, z2, z3, z4, z5⟩ := cells6S hW.1.2; go_simp; try with_reducible rfl)
      try simp only [Act.put, List.getElem_toArray, List.getElem_cons_zero, List.getElem_cons_succ, List.setIfInBounds_toArray, List.set_cons_zero, List.set_cons_succ]
      refine wpAnyH_take (i := 10) (v := ?v22) rfl (by kernel_rfl) (by kernel_rfl) (by kernel_rfl) (fun _ _ _ h => h) (Or.inl ⟨by rfl, ?y22⟩) (by assumption) ?r22
      case y22 => (intro W' hW; go_simp; try with_reducible rfl)
      try simp only [Act.put, List.getElem_toArray, List.getElem_cons_zero, List.getElem_cons_succ, List.setIfInBounds_toArray, List.set_cons_zero, List.set_cons_succ]
      refine wpAnyH_take (i := 11) (v := ?v23) rfl (by kernel_rfl) (by kernel_rfl) (by kernel_rfl) (fun _ _ _ h => h) (Or.inl ⟨by rfl, ?y23⟩) (by assumption) ?r23
      case y23 => (intro W' hW; go_simp; try with_reducible rfl)
      try simp only [Act.put, List.getElem_toArray, List.getElem_cons_zero, List.getElem_cons_succ, List.setIfInBounds_toArray, List.set_cons_zero, List.set_cons_succ]
      refine wpAnyH_take (i := 12) (v := ?v24) rfl (by kernel_rfl) (by kernel_rfl) (by kernel_rfl) (fun _ _ _ h => h) (Or.inl ⟨by rfl, ?y24⟩) (by assumption) ?r24
      case y24 => (intro W' hW; go_simp; try with_reducible rfl)
      try simp only [Act.put, List.getElem_toArray, List.getElem_cons_zero, List.getElem_cons_succ, List.setIfInBounds_toArray, List.set_cons_zero, List.set_cons_succ]
      refine wpAnyH_take (i := 16) (v := ?v25) rfl (by kernel_rfl) (by kernel_rfl) (by kernel_rfl) (fun _ _ _ h => h) (Or.inl ⟨by rfl, ?y25⟩) (by assumption) ?r25
      case y25 => (intro W' hW; obtain ⟨f0, f1, f2⟩ := cells3G hW.2; go_simp; try with_reducible rfl)
      try simp only [Act.put, List.getElem_toArray, List.getElem_cons_zero, List.getElem_cons_succ, List.setIfInBounds_toArray, List.set_cons_zero, List.set_cons_succ]
      refine wpAnyH_ready (rs := [9, 13]) (by kernel_rfl) (by simp) ?_
      refine AllReadyH.cons rfl (fun KK hK => ?_) (AllReadyH.cons rfl (fun KK hK => ?_) AllReadyH.nil)
      · skip
        go_simp
        refine (HK.out _).mono ?_
        rintro e w1 ⟨rfl, b1⟩
        have F1 : Fr [] _ w1 := Fr.of_below [] b1 (Nat.le_refl _)
        have HG1 : Hid _ := And.intro (And.intro (And.intro (HG.out.1.1.trans F1) (keepRow F1 HG.out.1.2 (by simp))) (keepRow F1 HG.out.2 (by simp))) F1
        clear hHeld b1 F1
        go_wp2_with fail
        refine hK.out _ _ ⟨⟨HC1.out _ HG1.out.1.1.1, HG1.out.1.1.2⟩, HG1.out.1.2⟩ (fun hHeld => ?_)
        clear hK KK
        have HG1' : Hid _ := HG1.out.1
        refine wpAnyH_ready (rs := [13]) (by kernel_rfl) (by simp) ?_
        refine AllReadyH.cons rfl (fun KK hK => ?_) AllReadyH.nil
        go_simp
        have HG2 : Hid _ := And.intro (And.intro (Fr.alloc HG1'.out.1.1 (.cells #[.int .u8 (48 + (id : Int))] 5)) (keep_allocF (.cells #[.int .u8 (48 + (id : Int))] 5) HG1'.out.1.2)) (keep_allocF (.cells #[.int .u8 (48 + (id : Int))] 5) HG1'.out.2)
        refine hK.out _ _ ⟨⟨HC1.out _ HG2.out.1.1, HG2.out.1.2⟩, HG2.out.2⟩ (fun hHeld => ?_)
        clear hK KK
        refine wpAnyH_ready (rs := [14]) (by kernel_rfl) (by simp) ?_
        refine AllReadyH.cons rfl (fun KK hK => ?_) AllReadyH.nil
        have hcv := conv1 _ w1.heap.size id hid (heap_of_new w1 (.cells #[.int .u8 (48 + (id : Int))] 5) _ rfl)
        go_simp
        clear hcv
        refine hK.out _ _ hHeld (fun hHeld => ?_)
        clear hK KK
        refine wpAnyH_take (i := 15) (v := ?v26) rfl (by kernel_rfl) (by kernel_rfl) (by kernel_rfl) (fun _ _ _ h => h) (Or.inl ⟨by rfl, ?y26⟩) (by assumption) ?r26
        case y26 => (intro W' hW; have hfx := HFX.out; have hdz : (digT id).size = 1 := rfl; go_simp; try with_reducible rfl)
        try simp only [Act.put, List.getElem_toArray, List.getElem_cons_zero, List.getElem_cons_succ, List.setIfInBounds_toArray, List.set_cons_zero, List.set_cons_succ]
        refine wpAnyH_ready (rs := [17]) (by kernel_rfl) (by simp) ?_
        refine AllReadyH.cons rfl (fun KK hK => ?_) AllReadyH.nil
        go_simp
        refine Calls.mono (HC.out _ HG2.out.1.1) ?_
        rintro e w9 ⟨r, S', H', rfl, hP, p9, tp9, f9⟩
        obtain ⟨h, hkl⟩ := HX.out
        have nn := h.apart
        have lw := HLW.out
        have n1 := nn.gs
        have n2 := nn.gt
        have F9 : Fr [t, sx] w w9 := (HG2.out.1.1.sub (by simp)).trans f9
        obtain ⟨r9, o9⟩ := h.called F9
        have q9 := keepRow (g := w.heap.size + 1) f9 HG2.out.2 (by simp; omega)
        have q8 := keepRow (g := w.heap.size) f9 HG2.out.1.2 (by simp; omega)
        have HM : Hid (MkC w w9 B g sx t S H K G sg id p q key r S' H') := ⟨hP, p9, tp9, r9, o9, F9.low hB (by simp; exact ⟨h.bt, h.bs⟩), Nat.le_trans hB F9.size, q9, heap_ltS q9⟩
        have SS := And.intro (And.intro r9.at1 q8) q9
        clear h hkl nn lw n1 n2 F9 r9 o9 q9 q8 hP p9 tp9 f9 hHeld
        go_wp2_with fail
        refine hK.out _ _ SS (fun hHeld => ?_)
        clear hK KK SS
        refine wpAnyH_take (i := 18) (v := ?v27) rfl (by kernel_rfl) (by kernel_rfl) (by kernel_rfl) (fun _ _ _ h => h) (Or.inl ⟨by rfl, ?y27⟩) (by assumption) ?r27
        case y27 => (intro W' hW; go_simp; try with_reducible rfl)
        try simp only [Act.put, List.getElem_toArray, List.getElem_cons_zero, List.getElem_cons_succ, List.setIfInBounds_toArray, List.set_cons_zero, List.set_cons_succ]
        refine wpAnyH_done (by kernel_rfl) ?_ _
        generalize (Value.slice (some ⟨_, 0, none⟩) 1 1) = sl
        exact HT2 w9 sl r S' H' HM.out
      · skip
        go_simp
        have HG2 : Hid _ := And.intro (And.intro (Fr.alloc HG.out.1.1 (.cells #[.int .u8 (48 + (id : Int))] 5)) (keep_allocF (.cells #[.int .u8 (48 + (id : Int))] 5) HG.out.1.2)) (keep_allocF (.cells #[.int .u8 (48 + (id : Int))] 5) HG.out.2)
        refine hK.out _ _ ⟨⟨HC1.out _ HG2.out.1.1, HG2.out.1.2⟩, HG2.out.2⟩ (fun hHeld => ?_)
        clear hK KK
        refine wpAnyH_ready (rs := [9, 14]) (by kernel_rfl) (by simp) ?_
        refine AllReadyH.cons rfl (fun KK hK => ?_) (AllReadyH.cons rfl (fun KK hK => ?_) AllReadyH.nil)
        · skip
          go_simp
          refine (HK.out _).mono ?_
          rintro e w3 ⟨rfl, b1⟩
          have F1 : Fr [] _ w3 := Fr.of_below [] b1 (Nat.le_refl _)
          have HG3 : Hid _ := And.intro (And.intro (And.intro (HG2.out.1.1.trans F1) (keepRow F1 HG2.out.1.2 (by simp))) (keepRow F1 HG2.out.2 (by simp))) F1
          clear hHeld b1 F1
          go_wp2_with fail
          refine hK.out _ _ ⟨⟨HC1.out _ HG3.out.1.1.1, HG3.out.1.1.2⟩, HG3.out.1.2⟩ (fun hHeld => ?_)
          clear hK KK
          have HG3' : Hid _ := HG3.out.1
          refine wpAnyH_ready (rs := [14]) (by kernel_rfl) (by simp) ?_
          refine AllReadyH.cons rfl (fun KK hK => ?_) AllReadyH.nil
          have hcv := conv1 w3 W.heap.size id hid (keepRow HG3.out.2 (heap_of_new W.drew (.cells #[.int .u8 (48 + (id : Int))] 5) _ rfl) (by simp))
          go_simp
          clear hcv
          refine hK.out _ _ hHeld (fun hHeld => ?_)
          clear hK KK
          refine wpAnyH_take (i := 15) (v := ?v28) rfl (by kernel_rfl) (by kernel_rfl) (by kernel_rfl) (fun _ _ _ h => h) (Or.inl ⟨by rfl, ?y28⟩) (by assumption) ?r28
          case y28 => (intro W' hW; have hfx := HFX.out; have hdz : (digT id).size = 1 := rfl; go_simp; try with_reducible rfl)
          try simp only [Act.put, List.getElem_toArray, List.getElem_cons_zero, List.getElem_cons_succ, List.setIfInBounds_toArray, List.set_cons_zero, List.set_cons_succ]
          refine wpAnyH_ready (rs := [17]) (by kernel_rfl) (by simp) ?_
          refine AllReadyH.cons rfl (fun KK hK => ?_) AllReadyH.nil
          go_simp
          refine Calls.mono (HC.out _ HG3'.out.1.1) ?_
          rintro e w9 ⟨r, S', H', rfl, hP, p9, tp9, f9⟩
          obtain ⟨h, hkl⟩ := HX.out
          have nn := h.apart
          have lw := HLW.out
          have n1 := nn.gs
          have n2 := nn.gt
          have F9 : Fr [t, sx] w w9 := (HG3'.out.1.1.sub (by simp)).trans f9
          obtain ⟨r9, o9⟩ := h.called F9
          have q9 := keepRow (g := w.heap.size + 1) f9 HG3'.out.2 (by simp; omega)
          have q8 := keepRow (g := w.heap.size) f9 HG3'.out.1.2 (by simp; omega)
          have HM : Hid (MkC w w9 B g sx t S H K G sg id p q key r S' H') := ⟨hP, p9, tp9, r9, o9, F9.low hB (by simp; exact ⟨h.bt, h.bs⟩), Nat.le_trans hB F9.size, q9, heap_ltS q9⟩
          have SS := And.intro (And.intro r9.at1 q8) q9
          clear h hkl nn lw n1 n2 F9 r9 o9 q9 q8 hP p9 tp9 f9 hHeld
          go_wp2_with fail
          refine hK.out _ _ SS (fun hHeld => ?_)
          clear hK KK SS
          refine wpAnyH_take (i := 18) (v := ?v29) rfl (by kernel_rfl) (by kernel_rfl) (by kernel_rfl) (fun _ _ _ h => h) (Or.inl ⟨by rfl, ?y29⟩) (by assumption) ?r29
          case y29 => (intro W' hW; go_simp; try with_reducible rfl)
          try simp only [Act.put, List.getElem_toArray, List.getElem_cons_zero, List.getElem_cons_succ, List.setIfInBounds_toArray, List.set_cons_zero, List.set_cons_succ]
          refine wpAnyH_done (by kernel_rfl) ?_ _
          generalize (Value.slice (some ⟨_, 0, none⟩) 1 1) = sl
          exact HT2 w9 sl r S' H' HM.out
        · skip
          have hcv := conv1 (W.alloc (.cells #[.int .u8 (48 + (id : Int))] 5)).drew W.heap.size id hid (heap_of_new W (.cells #[.int .u8 (48 + (id : Int))] 5) _ rfl)
          go_simp
          clear hcv
          refine hK.out _ _ hHeld (fun hHeld => ?_)
          clear hK KK
          refine wpAnyH_take (i := 15) (v := ?v30) rfl (by kernel_rfl) (by kernel_rfl) (by kernel_rfl) (fun _ _ _ h => h) (Or.inl ⟨by rfl, ?y30⟩) (by assumption) ?r30
          case y30 => (intro W' hW; have hfx := HFX.out; have hdz : (digT id).size = 1 := rfl; go_simp; try with_reducible rfl)
          try simp only [Act.put, List.getElem_toArray, List.getElem_cons_zero, List.getElem_cons_succ, List.setIfInBounds_toArray, List.set_cons_zero, List.set_cons_succ]
          refine wpAnyH_ready (rs := [9]) (by kernel_rfl) (by simp) ?_
          refine AllReadyH.cons rfl (fun KK hK => ?_) AllReadyH.nil
          go_simp
          refine (HK.out _).mono ?_
          rintro e w3 ⟨rfl, b1⟩
          have F1 : Fr [] _ w3 := Fr.of_below [] b1 (Nat.le_refl _)
          have HG3 : Hid _ := And.intro (And.intro (And.intro (HG2.out.1.1.trans F1) (keepRow F1 HG2.out.1.2 (by simp))) (keepRow F1 HG2.out.2 (by simp))) F1
          clear hHeld b1 F1
          go_wp2_with fail
          refine hK.out _ _ ⟨⟨HC1.out _ HG3.out.1.1.1, HG3.out.1.1.2⟩, HG3.out.1.2⟩ (fun hHeld => ?_)
          clear hK KK
          have HG3' : Hid _ := HG3.out.1
          refine wpAnyH_ready (rs := [17]) (by kernel_rfl) (by simp) ?_
          refine AllReadyH.cons rfl (fun KK hK => ?_) AllReadyH.nil
          go_simp
          refine Calls.mono (HC.out _ HG3'.out.1.1) ?_
          rintro e w9 ⟨r, S', H', rfl, hP, p9, tp9, f9⟩
          obtain ⟨h, hkl⟩ := HX.out
          have nn := h.apart
          have lw := HLW.out
          have n1 := nn.gs
          have n2 := nn.gt
          have F9 : Fr [t, sx] w w9 := (HG3'.out.1.1.sub (by simp)).trans f9
          obtain ⟨r9, o9⟩ := h.called F9
          have q9 := keepRow (g := w.heap.size + 1) f9 HG3'.out.2 (by simp; omega)
          have q8 := keepRow (g := w.heap.size) f9 HG3'.out.1.2 (by simp; omega)
          have HM : Hid (MkC w w9 B g sx t S H K G sg id p q key r S' H') := ⟨hP, p9, tp9, r9, o9, F9.low hB (by simp; exact ⟨h.bt, h.bs⟩), Nat.le_trans hB F9.size, q9, heap_ltS q9⟩
          have SS := And.intro (And.intro r9.at1 q8) q9
          clear h hkl nn lw n1 n2 F9 r9 o9 q9 q8 hP p9 tp9 f9 hHeld
          go_wp2_with fail
          refine hK.out _ _ SS (fun hHeld => ?_)
          clear hK KK SS
          refine wpAnyH_take (i := 18) (v := ?v31) rfl (by kernel_rfl) (by kernel_rfl) (by kernel_rfl) (fun _ _ _ h => h) (Or.inl ⟨by rfl, ?y31⟩) (by assumption) ?r31
          case y31 => (intro W' hW; go_simp; try with_reducible rfl)
          try simp only [Act.put, List.getElem_toArray, List.getElem_cons_zero, List.getElem_cons_succ, List.setIfInBounds_toArray, List.set_cons_zero, List.set_cons_succ]
          refine wpAnyH_done (by kernel_rfl) ?_ _
          generalize (Value.slice (some ⟨_, 0, none⟩) 1 1) = sl
          exact HT2 w9 sl r S' H' HM.out
    case tail2 =>
      intro W2 sl r S' H' HM1
      have HM : Hid _ := HM1
      clear HM1
      obtain ⟨h, hkl⟩ := HX.out
      have hP := HM.out.c
      rw [show (1 + (p : Int)) = ((1 + p : Nat) : Int) by omega, show (1 + (q : Int)) = ((1 + q : Nat) : Int) by omega] at hP
      have hcase := h.i.create hid hkl ⟨by omega, by omega⟩ ⟨by omega, by omega⟩ hP
      have r1 := HM.out.r
      have k19 := r1.at19
      have z19 := Row.frozen r1 19
      have z0 := Row.frozen r1 (2 + id * 4)
      have z1 := Row.frozen r1 (2 + id * 4 + 1)
      have z2 := Row.frozen r1 (2 + id * 4 + 2)
      have z3 := Row.frozen r1 (2 + id * 4 + 3)
      obtain ⟨kk0, kk1, kk2, kk3⟩ := r1.key id hid
      have cf := HM.out.cf
      have HCF : Hid _ := cf
      have HN : Hid (w.heap.size + 1 ≠ g) := by have := HLW.out; show _ ≠ _; omega
      clear hP r1 h hkl cf HS HK H1 H2 HC HC1 HQ0
      rcases hcase with ⟨e1, e2, e3, e4⟩ | ⟨e1, e2, e5, hRI⟩ | ⟨e1, e2, e5, hRI, hnew⟩
      · subst e2 e3 e4
        have HE : Hid _ := e1
        rw [e1] at kk0
        clear e1
        go_wp2
        go_ret
        obtain ⟨h, hkl⟩ := HX.out
        exact ⟨rfl, ⟨_, _, _, _, ⟨HM.out.r, HM.out.s, HM.out.tp, HM.out.o, h.i, h.bg, h.bs, h.bt⟩, .inl HE.out⟩, HM.out.bel⟩
      · subst e2
        have HRI : Hid _ := And.intro e5 hRI
        have r2 := HM.out.r.set19 true
        obtain ⟨m0, m1, m2, m3⟩ := r2.key id hid
        have y0 := Row.frozen r2 (2 + id * 4)
        have r3 := r2.setKy id 0 hid (by omega) { K id with there := 2 } (by
          intro i hi hne
          rcases (by omega : i = 1 ∨ i = 2 ∨ i = 3) with rfl | rfl | rfl <;> rfl)
        have FF : Fr [g] W2 ((W2.setCell ⟨g, 19, none⟩ (.bool true)).setCell ⟨g, 2 + id * 4, none⟩ (.int .i64 2)) := Fr.setCell (Fr.setCell (Fr.refl _ _) (.inr (by simp)) _) (.inr (by simp)) _
        have HR3 : Hid (RgR ((W2.setCell ⟨g, 19, none⟩ (.bool true)).setCell ⟨g, 2 + id * 4, none⟩ (.int .i64 2)) g sx t (setK K id { K id with there := 2 }) sg true ∧ Fr [g] W2 ((W2.setCell ⟨g, 19, none⟩ (.bool true)).setCell ⟨g, 2 + id * 4, none⟩ (.int .i64 2))) := And.intro r3 FF
        rw [e1] at kk0 m0
        clear e1 e5 hRI r2 r3 FF
        go_wp2_with fail
        suffices H6 : ∀ W3, RgR W3 g sx t (setK K id { K id with there := 2 }) sg true ∧ Fr [g] W2 W3 → Code.wp Tryz.prog _ _ _ W3 from H6 _ HR3.out
        clear HR3 k19 z19 z0 z1 z2 z3 kk0 kk1 kk2 kk3 m0 m1 m2 m3 y0
        intro W3 X
        have X0 : W3.drew.heap[w.heap.size + 1]? = some (.cells #[.int .i64 (1 + (p : Int)), .int .i64 (1 + (q : Int)), .int .i64 20] 50 (0, 0)) := keepRow X.2.drew HCF.out (by simpa using HN.out)
        obtain ⟨a0, a1, a2, a3⟩ := X.1.key id hid
        have fz := Row.frozen X.1 (2 + id * 4 + 2)
        have F4 : Fr [g] W2 (W3.setCell ⟨g, 2 + id * 4 + 2, none⟩ (.int .i64 (1 + (p : Int)))).drew := (Fr.setCell X.2 (.inr (by simp)) _).drew
        have r4 := X.1.setKy id 2 hid (by omega) ⟨2, (K id).ret, 1 + p, (K id).given⟩ (by
          intro i hi hne
          rw [setK_at]
          rcases (by omega : i = 0 ∨ i = 1 ∨ i = 3) with rfl | rfl | rfl <;> rfl)
        have XA : (W3.setCell ⟨g, 2 + id * 4 + 2, none⟩ (.int .i64 (1 + (p : Int)))).drew.heap[w.heap.size + 1]? = some (.cells #[.int .i64 (1 + (p : Int)), .int .i64 (1 + (q : Int)), .int .i64 20] 50 (0, 0)) := keepRow F4 HCF.out (by simpa using HN.out)
        have HX4 : Hid _ := And.intro F4 r4
        clear X F4 r4
        refine wp_region_held_drew (S := fun W' => W'.heap[w.heap.size + 1]? = some (.cells #[.int .i64 (1 + (p : Int)), .int .i64 (1 + (q : Int)), .int .i64 20] 50 (0, 0))) (by kernel_rfl) X0 (fun hHeld => ?_)
        refine wpAnyH_take (i := 0) (v := ?v32) rfl (by kernel_rfl) (by kernel_rfl) (by kernel_rfl) (fun _ _ _ h => h) (Or.inl ⟨by rfl, ?y32⟩) (by assumption) ?r32
        case y32 => (intro W' hW; go_simp; try with_reducible rfl)
        try simp only [Act.put, List.getElem_toArray, List.getElem_cons_zero, List.setIfInBounds_toArray, List.set_cons_zero, List.set_cons_succ]
        refine wpAnyH_take (i := 1) (v := ?v33) rfl (by kernel_rfl) (by kernel_rfl) (by kernel_rfl) (fun _ _ _ h => h) (Or.inl ⟨by rfl, ?y33⟩) (by assumption) ?r33
        case y33 => (intro W' hW; go_simp; try with_reducible rfl)
        try simp only [Act.put, List.getElem_toArray, List.getElem_cons_zero, List.getElem_cons_succ, List.setIfInBounds_toArray, List.set_cons_zero, List.set_cons_succ]
        refine wpAnyH_take (i := 2) (v := ?v34) rfl (by kernel_rfl) (by kernel_rfl) (by kernel_rfl) (fun _ _ _ h => h) (Or.inl ⟨by rfl, ?y34⟩) (by assumption) ?r34
        case y34 => (intro W' hW; go_simp; try with_reducible rfl)
        try simp only [Act.put, List.getElem_toArray, List.getElem_cons_zero, List.getElem_cons_succ, List.setIfInBounds_toArray, List.set_cons_zero, List.set_cons_succ]
        refine wpAnyH_take (i := 3) (v := ?v35) rfl (by kernel_rfl) (by kernel_rfl) (by kernel_rfl) (fun _ _ _ h => h) (Or.inl ⟨by rfl, ?y35⟩) (by assumption) ?r35
        case y35 => (intro W' hW; obtain ⟨f0, f1, f2⟩ := cells3G hW; go_simp; try with_reducible rfl)
        try simp only [Act.put, List.getElem_toArray, List.getElem_cons_zero, List.getElem_cons_succ, List.setIfInBounds_toArray, List.set_cons_zero, List.set_cons_succ]
        refine wpAnyH_take (i := 4) (v := ?v36) rfl (by kernel_rfl) (by kernel_rfl) (by kernel_rfl) (fun _ _ _ h => h) (Or.inl ⟨by rfl, ?y36⟩) (by assumption) ?r36
        case y36 => (intro W' hW; go_simp; try with_reducible rfl)
        try simp only [Act.put, List.getElem_toArray, List.getElem_cons_zero, List.getElem_cons_succ, List.setIfInBounds_toArray, List.set_cons_zero, List.set_cons_succ]
        refine wpAnyH_take (i := 5) (v := ?v37) rfl (by kernel_rfl) (by kernel_rfl) (by kernel_rfl) (fun _ _ _ h => h) (Or.inl ⟨by rfl, ?y37⟩) (by assumption) ?r37
        case y37 => (intro W' hW; go_simp; try with_reducible rfl)
        try simp only [Act.put, List.getElem_toArray, List.getElem_cons_zero, List.getElem_cons_succ, List.setIfInBounds_toArray, List.set_cons_zero, List.set_cons_succ]
        refine wpAnyH_take (i := 6) (v := ?v38) rfl (by kernel_rfl) (by kernel_rfl) (by kernel_rfl) (fun _ _ _ h => h) (Or.inl ⟨by rfl, ?y38⟩) (by assumption) ?r38
        case y38 => (intro W' hW; go_simp; try with_reducible rfl)
        try simp only [Act.put, List.getElem_toArray, List.getElem_cons_zero, List.getElem_cons_succ, List.setIfInBounds_toArray, List.set_cons_zero, List.set_cons_succ]
        refine wpAnyH_take (i := 7) (v := ?v39) rfl (by kernel_rfl) (by kernel_rfl) (by kernel_rfl) (fun _ _ _ h => h) (Or.inl ⟨by rfl, ?y39⟩) (by assumption) ?r39
        case y39 => (intro W' hW; go_simp; try with_reducible rfl)
        try simp only [Act.put, List.getElem_toArray, List.getElem_cons_zero, List.getElem_cons_succ, List.setIfInBounds_toArray, List.set_cons_zero, List.set_cons_succ]
        refine wpAnyH_ready (rs := [8]) (by kernel_rfl) (by simp) ?_
        refine AllReadyH.cons rfl (fun K hK => ?_) ?nil8
        case nil8 => exact AllReadyH.nil
        go_simp
        refine hK.out _ _ XA (fun hHeld => ?_)
        clear hK K
        refine wpAnyH_done (by kernel_rfl) ?_ _
        go_wp2
        go_ret
        obtain ⟨h, hkl⟩ := HX.out
        have ee : setK (setK K id { K id with there := 2 }) id ⟨2, (K id).ret, 1 + p, (K id).given⟩ = setK K id ⟨2, (K id).ret, 1 + p, (K id).given⟩ := by funext j; unfold setK; split <;> rfl
        have r4 := HX4.out.2
        rw [ee] at r4
        exact ⟨rfl, ⟨_, _, _, _, Rng.of h.apart HM.out.s HM.out.tp HM.out.o HX4.out.1 r4 HRI.out.2 h.bg h.bs h.bt, .inr (.inl HRI.out.1)⟩, HM.out.bel.trans (HX4.out.1.low HM.out.bb (by simp; exact h.bg))⟩
      · subst e2
        have HRI : Hid _ := And.intro e5 (And.intro hRI hnew)
        rw [e1] at kk0
        clear e1 e5 hRI hnew
        go_wp2_with fail
        have X0 : W2.drew.heap[w.heap.size + 1]? = some (.cells #[.int .i64 (1 + (p : Int)), .int .i64 (1 + (q : Int)), .int .i64 20] 50 (0, 0)) := HCF.out
        have r4 := RgR.set4 HM.out.r id hid ⟨1, 0, 1 + p, 0⟩
        have F4 : Fr [g] W2 ((((W2.setCell ⟨g, 2 + id * 4, none⟩ (.int .i64 1)).setCell ⟨g, 2 + id * 4 + 1, none⟩ (.int .i64 0)).setCell ⟨g, 2 + id * 4 + 2, none⟩ (.int .i64 (1 + (p : Int)))).setCell ⟨g, 2 + id * 4 + 3, none⟩ (.int .i64 0)).drew := (Fr.setCell (Fr.setCell (Fr.setCell (Fr.setCell (Fr.refl _ _) (.inr (by simp)) _) (.inr (by simp)) _) (.inr (by simp)) _) (.inr (by simp)) _).drew
        have XA : ((((W2.setCell ⟨g, 2 + id * 4, none⟩ (.int .i64 1)).setCell ⟨g, 2 + id * 4 + 1, none⟩ (.int .i64 0)).setCell ⟨g, 2 + id * 4 + 2, none⟩ (.int .i64 (1 + (p : Int)))).setCell ⟨g, 2 + id * 4 + 3, none⟩ (.int .i64 0)).drew.heap[w.heap.size + 1]? = some (.cells #[.int .i64 (1 + (p : Int)), .int .i64 (1 + (q : Int)), .int .i64 20] 50 (0, 0)) := keepRow F4 HCF.out (by simpa using HN.out)
        have HX4 : Hid _ := And.intro F4 r4
        clear F4 r4
        refine wp_region_held_drew (S := fun W' => W'.heap[w.heap.size + 1]? = some (.cells #[.int .i64 (1 + (p : Int)), .int .i64 (1 + (q : Int)), .int .i64 20] 50 (0, 0))) (by kernel_rfl) X0 (fun hHeld => ?_)
        refine wpAnyH_take (i := 0) (v := ?v40) rfl (by kernel_rfl) (by kernel_rfl) (by kernel_rfl) (fun _ _ _ h => h) (Or.inl ⟨by rfl, ?y40⟩) (by assumption) ?r40
        case y40 => (intro W' hW; go_simp; try with_reducible rfl)
        try simp only [Act.put, List.getElem_toArray, List.getElem_cons_zero, List.setIfInBounds_toArray, List.set_cons_zero, List.set_cons_succ]
        refine wpAnyH_take (i := 1) (v := ?v41) rfl (by kernel_rfl) (by kernel_rfl) (by kernel_rfl) (fun _ _ _ h => h) (Or.inl ⟨by rfl, ?y41⟩) (by assumption) ?r41
        case y41 => (intro W' hW; go_simp; try with_reducible rfl)
        try simp only [Act.put, List.getElem_toArray, List.getElem_cons_zero, List.getElem_cons_succ, List.setIfInBounds_toArray, List.set_cons_zero, List.set_cons_succ]
        refine wpAnyH_take (i := 2) (v := ?v42) rfl (by kernel_rfl) (by kernel_rfl) (by kernel_rfl) (fun _ _ _ h => h) (Or.inl ⟨by rfl, ?y42⟩) (by assumption) ?r42
        case y42 => (intro W' hW; go_simp; try with_reducible rfl)
        try simp only [Act.put, List.getElem_toArray, List.getElem_cons_zero, List.getElem_cons_succ, List.setIfInBounds_toArray, List.set_cons_zero, List.set_cons_succ]
        refine wpAnyH_take (i := 3) (v := ?v43) rfl (by kernel_rfl) (by kernel_rfl) (by kernel_rfl) (fun _ _ _ h => h) (Or.inl ⟨by rfl, ?y43⟩) (by assumption) ?r43
        case y43 => (intro W' hW; obtain ⟨f0, f1, f2⟩ := cells3G hW; go_simp; try with_reducible rfl)
        try simp only [Act.put, List.getElem_toArray, List.getElem_cons_zero, List.getElem_cons_succ, List.setIfInBounds_toArray, List.set_cons_zero, List.set_cons_succ]
        refine wpAnyH_take (i := 4) (v := ?v44) rfl (by kernel_rfl) (by kernel_rfl) (by kernel_rfl) (fun _ _ _ h => h) (Or.inl ⟨by rfl, ?y44⟩) (by assumption) ?r44
        case y44 => (intro W' hW; go_simp; try with_reducible rfl)
        try simp only [Act.put, List.getElem_toArray, List.getElem_cons_zero, List.getElem_cons_succ, List.setIfInBounds_toArray, List.set_cons_zero, List.set_cons_succ]
        refine wpAnyH_take (i := 5) (v := ?v45) rfl (by kernel_rfl) (by kernel_rfl) (by kernel_rfl) (fun _ _ _ h => h) (Or.inl ⟨by rfl, ?y45⟩) (by assumption) ?r45
        case y45 => (intro W' hW; go_simp; try with_reducible rfl)
        try simp only [Act.put, List.getElem_toArray, List.getElem_cons_zero, List.getElem_cons_succ, List.setIfInBounds_toArray, List.set_cons_zero, List.set_cons_succ]
        refine wpAnyH_take (i := 6) (v := ?v46) rfl (by kernel_rfl) (by kernel_rfl) (by kernel_rfl) (fun _ _ _ h => h) (Or.inl ⟨by rfl, ?y46⟩) (by assumption) ?r46
        case y46 => (intro W' hW; go_simp; try with_reducible rfl)
        try simp only [Act.put, List.getElem_toArray, List.getElem_cons_zero, List.getElem_cons_succ, List.setIfInBounds_toArray, List.set_cons_zero, List.set_cons_succ]
        refine wpAnyH_take (i := 7) (v := ?v47) rfl (by kernel_rfl) (by kernel_rfl) (by kernel_rfl) (fun _ _ _ h => h) (Or.inl ⟨by rfl, ?y47⟩) (by assumption) ?r47
        case y47 => (intro W' hW; go_simp; try with_reducible rfl)
        try simp only [Act.put, List.getElem_toArray, List.getElem_cons_zero, List.getElem_cons_succ, List.setIfInBounds_toArray, List.set_cons_zero, List.set_cons_succ]
        refine wpAnyH_ready (rs := [8]) (by kernel_rfl) (by simp) ?_
        refine AllReadyH.cons rfl (fun K hK => ?_) ?nil8
        case nil8 => exact AllReadyH.nil
        go_simp
        refine hK.out _ _ XA (fun hHeld => ?_)
        clear hK K
        refine wpAnyH_done (by kernel_rfl) ?_ _
        go_wp2
        go_ret
        obtain ⟨h, hkl⟩ := HX.out
        obtain ⟨e5, hRI, i, hi, c1, c2, c3, c4⟩ := HRI.out
        exact ⟨rfl, ⟨_, _, _, _, Rng.of h.apart HM.out.s HM.out.tp HM.out.o HX4.out.1 HX4.out.2 hRI h.bg h.bs h.bt, .inr (.inr ⟨rfl, e5, rfl, i, hi, ⟨by omega, by omega⟩, c4⟩)⟩, HM.out.bel.trans (HX4.out.1.low HM.out.bb (by simp; exact h.bg))⟩
end Go.Proofs.YtgalgjmhdbncbaaGreat
