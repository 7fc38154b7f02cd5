import Derived.Test.YtgalgjmhdbncbaaGreatZf41
namespace Go.Proofs.YtgalgjmhdbncbaaGreat
open Go.RowKit
attribute [local go_sem ↓] Go.wp_at_zero Go.wp_at_succ

def StepQ (kd id s : Nat) (S : Sto) (H : Nat → Hd) (K : Nat → Ky) (G : List Gv) (ov : Bool) (S' : Sto) (H' : Nat → Hd) (K' : Nat → Ky) (G' : List Gv) (ov' : Bool) : Prop :=
  (ov = false → kd = 0 → MakeQ S K id s S' H' K' ov' ∧ G' = G) ∧ (ov = false → kd = 1 → SealQ S H K G id S' H' K' G' ov') ∧ (kd = 7 → ov' = false ∧ G' = G) ∧ (ov = false → kd = 4 → ov' = false ∧ G' = G)
structure StOk (o : StA) : Prop where
  k1 : -9223372036854775808 ≤ o.kind
  k2 : o.kind ≤ 9223372036854775807
  a1 : -9223372036854775808 ≤ o.a
  a2 : o.a ≤ 9223372036854775807
  b1 : -9223372036854775808 ≤ o.b
  b2 : o.b ≤ 9223372036854775807
  c1 : -9223372036854775808 ≤ o.c
  c2 : o.c ≤ 9223372036854775807
  s : o.s.size ≤ maxLen
def StepE (w w' : World) (B g : Nat) (o : StA) (S : Sto) (H : Nat → Hd) (K : Nat → Ky) (G : List Gv) (ov : Bool) : Prop :=
  (∃ sx' t' S' H' K' G' ov' sg' top', Rng w' B g sx' t' S' H' K' G' ov' sg' top' ∧ G'.length ≤ G.length + 1 ∧ StepQ (pickV o.kind 9) (pickV o.a 4) (1 + pickV o.b 12) S H K G ov S' H' K' G' ov') ∧ Below B w w'
theorem RI.inter {S : Sto} {t : Nat} {H : Nat → Hd} {K : Nat → Ky} {G : List Gv} {ov : Bool} {top : Nat → Nat} (h : RI S t H K G ov top) (k : Nat) (hk : k < 4) (d : Bool) : RI (interM S (k : Int) d) t H K G ov top := by
  unfold interM
  rw [if_neg (by omega)]
  refine ⟨h.cs, h.dk, fun e => ?_, fun e => h.ov e, ?_, h.tk, h.cr⟩
  · have L := h.lv e
    exact ⟨L.tab, L.eq, L.ct, L.z, L.yn⟩
  · show (k : Int).toNat ≤ _
    omega
set_option maxRecDepth 100000 in
set_option maxHeartbeats 8000000 in
theorem step_any (w : World) (B g sx t : Nat) (S : Sto) (H : Nat → Hd) (K : Nat → Ky) (G : List Gv) (ov : Bool) (sg : Value) (top : Nat → Nat) (o : StA) (ho : StOk o) (hB : B ≤ w.heap.size) (hln : G.length ≤ 3000000000000) (h : Rng w B g sx t S H K G ov sg top) :
    Calls Tryz.prog 9 #[ptr g, .agg (stC o)] w fun e w' => e = .returned (.bool true) ∧ StepE w w' B g o S H K G ov := by
  have F0 : Fr [] w (w.alloc (.cells #[.int .i64 o.kind, .int .i64 o.a, .int .i64 o.b, .int .i64 o.c, .string o.s, .bool o.yes] 31)) := (Fr.refl _ _).alloc _
  have q0 : (w.alloc (.cells #[.int .i64 o.kind, .int .i64 o.a, .int .i64 o.b, .int .i64 o.c, .string o.s, .bool o.yes] 31)).heap[w.heap.size]? = some (.cells #[.int .i64 o.kind, .int .i64 o.a, .int .i64 o.b, .int .i64 o.c, .string o.s, .bool o.yes] 31 (0, 0)) := heap_of_new _ _ _ rfl
  have hpa := fun W => pickv_any o.a 4 ho.a1 ho.a2 (by omega) (by omega) W
  have hpk := fun W => pickv_any o.kind 9 ho.k1 ho.k2 (by omega) (by omega) W
  have hid := pickV_lt o.a 4 (by omega)
  have hkl := pickV_lt o.kind 9 (by omega)
  have hq : ∀ kd id, pickV o.kind 9 = kd → pickV o.a 4 = id → ∀ w', (∃ sx' t' S' H' K' G' ov' sg' top', Rng w' B g sx' t' S' H' K' G' ov' sg' top' ∧ G'.length ≤ G.length + 1 ∧ StepQ kd id (1 + pickV o.b 12) S H K G ov S' H' K' G' ov') ∧ Below B w w' → StepE w w' B g o S H K G ov := by
    rintro kd id rfl rfl w' hh
    exact hh
  obtain ⟨id, hidE⟩ : ∃ r, pickV o.a 4 = r := ⟨_, rfl⟩
  obtain ⟨kd, hkdE⟩ : ∃ r, pickV o.kind 9 = r := ⟨_, rfl⟩
  have hq' := hq kd id hkdE hidE
  have h0 := h.fr0 F0
  have hB0 : B ≤ (w.alloc (.cells #[.int .i64 o.kind, .int .i64 o.a, .int .i64 o.b, .int .i64 o.c, .string o.s, .bool o.yes] 31)).heap.size := Nat.le_trans hB F0.size
  rw [hidE] at hpa hid
  rw [hkdE] at hpk hkl
  have HPA : Hid _ := hpa
  have HPK : Hid _ := hpk
  have HQ : Hid _ := hq'
  have HB : Hid _ := And.intro (Fr.low F0 hB (by simp)) hB0
  have l0 := h.lt
  have HL : Hid _ := l0
  clear hpa hpk hq hq' hidE hkdE l0 hB0
  unfold ptr stC
  rcases (by omega : kd = 6 ∨ kd = 7 ∨ kd = 8 ∨ (kd ≠ 6 ∧ kd ≠ 7 ∧ kd ≠ 8)) with rfl | rfl | rfl | ⟨n6, n7, n8⟩
  · have hpb := fun W => pickv_any o.b 4 ho.b1 ho.b2 (by omega) (by omega) W
    have hbl := pickV_lt o.b 4 (by omega)
    obtain ⟨k, hkE⟩ : ∃ r, pickV o.b 4 = r := ⟨_, rfl⟩
    rw [hkE] at hpb hbl
    have hin := fun W hs => interrupt_any sx S (k : Int) o.yes W hs
    rw [if_neg (by omega)] at hin
    unfold ptr at hin
    have HIN : Hid _ := hin
    have HPB : Hid _ := hpb
    have hn := h.apart
    have X0 : (w.alloc (.cells #[.int .i64 o.kind, .int .i64 o.a, .int .i64 o.b, .int .i64 o.c, .string o.s, .bool o.yes] 31)).drew.cell? ⟨g, 0, none⟩ = some (.pointer (some ⟨sx, 0, none⟩)) ∧ (w.alloc (.cells #[.int .i64 o.kind, .int .i64 o.a, .int .i64 o.b, .int .i64 o.c, .string o.s, .bool o.yes] 31)).drew.heap[w.heap.size]? = some (.cells #[.int .i64 o.kind, .int .i64 o.a, .int .i64 o.b, .int .i64 o.c, .string o.s, .bool o.yes] 31 (0, 0)) := ⟨h0.r.at0, q0⟩
    have HX : Hid _ := And.intro (h0.fr0 (Fr.refl _ _).drew) (And.intro hn X0)
    clear hin hpb hkE F0 q0 h h0 hn X0 ho
    go_enter Tryz.func9, Tryz.ntmps9
    go_wp2_with fail
    refine (HPA.out _).mono ?_
    rintro e w1 ⟨rfl, rfl⟩
    go_wp2_with fail
    refine (HPK.out _).mono ?_
    rintro e w1 ⟨rfl, rfl⟩
    go_wp2_with fail
    refine wp_region_held_drew (S := fun W' => W'.cell? ⟨g, 0, none⟩ = some (.pointer (some ⟨sx, 0, none⟩)) ∧ W'.heap[w.heap.size]? = some (.cells #[.int .i64 o.kind, .int .i64 o.a, .int .i64 o.b, .int .i64 o.c, .string o.s, .bool o.yes] 31 (0, 0))) (by kernel_rfl) HX.out.2.2 (fun hHeld => ?_)
    refine wpAnyH_take (i := 0) (v := ?v1) rfl (by kernel_rfl) (by kernel_rfl) (by kernel_rfl) (fun _ _ _ h => h) (Or.inl ⟨by rfl, ?y1⟩) (by assumption) ?r1
    case y1 => (intro W' hW; go_simp; try with_reducible rfl)
    try simp only [Act.put, List.getElem_toArray, List.getElem_cons_zero, List.setIfInBounds_toArray, List.set_cons_zero, List.set_cons_succ]
    refine wpAnyH_take (i := 1) (v := ?v2) rfl (by kernel_rfl) (by kernel_rfl) (by kernel_rfl) (fun _ _ _ h => h) (Or.inl ⟨by rfl, ?y2⟩) (by assumption) ?r2
    case y2 => (intro W' hW; go_simp; try with_reducible rfl)
    try simp only [Act.put, List.getElem_toArray, List.getElem_cons_zero, List.getElem_cons_succ, List.setIfInBounds_toArray, List.set_cons_zero, List.set_cons_succ]
    refine wpAnyH_take (i := 2) (v := ?v3) rfl (by kernel_rfl) (by kernel_rfl) (by kernel_rfl) (fun _ _ _ h => h) (Or.inl ⟨by rfl, ?y3⟩) (by assumption) ?r3
    case y3 => (intro W' hW; go_simp; try with_reducible rfl)
    try simp only [Act.put, List.getElem_toArray, List.getElem_cons_zero, List.getElem_cons_succ, List.setIfInBounds_toArray, List.set_cons_zero, List.set_cons_succ]
    refine wpAnyH_take (i := 3) (v := ?v4) rfl (by kernel_rfl) (by kernel_rfl) (by kernel_rfl) (fun _ _ _ h => h) (Or.inl ⟨by rfl, ?y4⟩) (by assumption) ?r4
    case y4 => (intro W' hW; have a0 := hW.1; go_simp; try with_reducible rfl)
    try simp only [Act.put, List.getElem_toArray, List.getElem_cons_zero, List.getElem_cons_succ, List.setIfInBounds_toArray, List.set_cons_zero, List.set_cons_succ]
    refine wpAnyH_take (i := 4) (v := ?v5) rfl (by kernel_rfl) (by kernel_rfl) (by kernel_rfl) (fun _ _ _ h => h) (Or.inl ⟨by rfl, ?y5⟩) (by assumption) ?r5
    case y5 => (intro W' hW; go_simp; try with_reducible rfl)
    try simp only [Act.put, List.getElem_toArray, List.getElem_cons_zero, List.getElem_cons_succ, List.setIfInBounds_toArray, List.set_cons_zero, List.set_cons_succ]
    refine wpAnyH_take (i := 5) (v := ?v6) rfl (by kernel_rfl) (by kernel_rfl) (by kernel_rfl) (fun _ _ _ h => h) (Or.inl ⟨by rfl, ?y6⟩) (by assumption) ?r6
    case y6 => (intro W' hW; obtain ⟨z0, z1, z2, z3, z4, z5⟩ := cells6S hW.2; go_simp; try with_reducible rfl)
    try simp only [Act.put, List.getElem_toArray, List.getElem_cons_zero, List.getElem_cons_succ, List.setIfInBounds_toArray, List.set_cons_zero, List.set_cons_succ]
    refine wpAnyH_take (i := 7) (v := ?v7) rfl (by kernel_rfl) (by kernel_rfl) (by kernel_rfl) (fun _ _ _ h => h) (Or.inl ⟨by rfl, ?y7⟩) (by assumption) ?r7
    case y7 => (intro W' hW; go_simp; try with_reducible rfl)
    try simp only [Act.put, List.getElem_toArray, List.getElem_cons_zero, List.getElem_cons_succ, List.setIfInBounds_toArray, List.set_cons_zero, List.set_cons_succ]
    refine wpAnyH_take (i := 8) (v := ?v8) rfl (by kernel_rfl) (by kernel_rfl) (by kernel_rfl) (fun _ _ _ h => h) (Or.inl ⟨by rfl, ?y8⟩) (by assumption) ?r8
    case y8 => (intro W' hW; obtain ⟨z0, z1, z2, z3, z4, z5⟩ := cells6S hW.2; go_simp; try with_reducible rfl)
    try simp only [Act.put, List.getElem_toArray, List.getElem_cons_zero, List.getElem_cons_succ, List.setIfInBounds_toArray, List.set_cons_zero, List.set_cons_succ]
    refine wpAnyH_ready (rs := [6]) (by kernel_rfl) (by simp) ?_
    refine AllReadyH.cons rfl (fun K hK => ?_) ?nil6
    case nil6 => exact AllReadyH.nil
    go_simp
    refine (HPB.out _).mono ?_
    rintro e w1 ⟨rfl, rfl⟩
    go_wp2_with fail
    refine hK.out _ _ HX.out.2.2 (fun hHeld => ?_)
    clear hK K
    refine wpAnyH_ready (rs := [9]) (by kernel_rfl) (by simp) ?_
    refine AllReadyH.cons rfl (fun K hK => ?_) ?nil9
    case nil9 => exact AllReadyH.nil
    go_simp
    refine (HIN.out _ HX.out.1.s).mono ?_
    rintro e w2 ⟨rfl, p2, c2⟩
    have hn := HX.out.2.1
    have l0 := HL.out
    have n1 := hn.gs
    have n2 := hn.st
    have q2 : w2.heap[w.heap.size]? = some (.cells #[.int .i64 o.kind, .int .i64 o.a, .int .i64 o.b, .int .i64 o.c, .string o.s, .bool o.yes] 31 (0, 0)) := by rw [c2.block _ (by omega)]; exact HX.out.2.2.2
    have r2 : RgR w2 g sx t _ sg ov := Row.chg HX.out.1.r c2 (by omega)
    have HC2 : Hid _ := And.intro p2 (And.intro c2 r2)
    have S2 := And.intro r2.at0 q2
    clear hn l0 n1 n2 q2 p2 c2 r2
    go_wp2_with fail
    refine hK.out _ _ S2 (fun hHeld => ?_)
    clear hK K
    clear S2
    refine wpAnyH_take (i := 10) (v := ?v9) rfl (by kernel_rfl) (by kernel_rfl) (by kernel_rfl) (fun _ _ _ h => h) (Or.inl ⟨by rfl, ?y9⟩) (by assumption) ?r9
    case y9 => (intro W' hW; go_simp; try with_reducible rfl)
    try simp only [Act.put, List.getElem_toArray, List.getElem_cons_zero, List.getElem_cons_succ, List.setIfInBounds_toArray, List.set_cons_zero, List.set_cons_succ]
    refine wpAnyH_done (by kernel_rfl) ?_ _
    go_wp2
    go_ret
    obtain ⟨p2, c2, r2⟩ := HC2.out
    have hh := HX.out.1
    have hn := HX.out.2.1
    refine ⟨rfl, HQ.out _ ⟨⟨_, _, _, _, _, G, _, _, _, ⟨r2, p2, Row.chg hh.tp c2 (by have := hn.st; omega), ?_, hh.i.inter k hbl o.yes, hh.bg, hh.bs, hh.bt⟩, Nat.le_succ _, ⟨fun _ e => by omega, fun _ e => by omega, fun e => by omega, fun _ e => by omega⟩⟩, HB.out.1.drew.trans (Below.of_chg c2 hh.bs)⟩⟩
    exact ownsFr hh.o (Fr.of_chg (L := [sx]) c2 (by simp)) (fun b hb => by have := (hn.og b hb).2.1; simpa using this)
  · have hcp := copied_any (w.alloc (.cells #[.int .i64 o.kind, .int .i64 o.a, .int .i64 o.b, .int .i64 o.c, .string o.s, .bool o.yes] 31)) B g sx t S K G ov sg top HB.out.2 h0.base
    have HCP : Hid _ := hcp
    unfold ptr at HCP
    clear hcp F0 q0 h h0 ho
    go_enter Tryz.func9, Tryz.ntmps9
    go_wp2_with fail
    refine (HPA.out _).mono ?_
    rintro e w1 ⟨rfl, rfl⟩
    go_wp2_with fail
    refine (HPK.out _).mono ?_
    rintro e w1 ⟨rfl, rfl⟩
    go_wp2_with fail
    refine Calls.mono HCP.out ?_
    rintro e w2 ⟨rfl, ⟨sx2, S2, b2, l2⟩, be2⟩
    have hst := starts_any w2 B g sx2 t S2 K G ov sg top (Nat.le_trans HB.out.2 be2.size) b2
    unfold ptr at hst
    have HST : Hid _ := hst
    have HBE : Hid _ := be2
    clear hst be2 b2
    go_wp2_with fail
    refine Calls.mono HST.out ?_
    rintro e w3 ⟨rfl, ⟨t3, S3, H3, K3, r3, l3⟩, be3⟩
    have H3 : Hid _ := And.intro r3 be3
    clear r3 be3
    go_wp2
    go_ret
    exact ⟨rfl, HQ.out _ ⟨⟨_, _, _, _, _, _, _, _, _, H3.out.1, by omega, ⟨fun _ e => by omega, fun _ e => by omega, fun _ => ⟨rfl, rfl⟩, fun _ e => by omega⟩⟩, (HB.out.1.trans HBE.out).trans H3.out.2⟩⟩
  · have hst := starts_any (w.alloc (.cells #[.int .i64 o.kind, .int .i64 o.a, .int .i64 o.b, .int .i64 o.c, .string o.s, .bool o.yes] 31)) B g sx t S K G ov sg top HB.out.2 h0.base
    unfold ptr at hst
    have HST : Hid _ := hst
    clear hst F0 q0 h h0 ho
    go_enter Tryz.func9, Tryz.ntmps9
    go_wp2_with fail
    refine (HPA.out _).mono ?_
    rintro e w1 ⟨rfl, rfl⟩
    go_wp2_with fail
    refine (HPK.out _).mono ?_
    rintro e w1 ⟨rfl, rfl⟩
    go_wp2_with fail
    refine Calls.mono HST.out ?_
    rintro e w3 ⟨rfl, ⟨t3, S3, H3, K3, r3, l3⟩, be3⟩
    have H3 : Hid _ := And.intro r3 be3
    clear r3 be3
    go_wp2
    go_ret
    exact ⟨rfl, HQ.out _ ⟨⟨_, _, _, _, _, _, _, _, _, H3.out.1, by omega, ⟨fun _ e => by omega, fun _ e => by omega, fun e => by omega, fun _ e => by omega⟩⟩, HB.out.1.trans H3.out.2⟩⟩
  · have b6 : ((kd : Int) == 6) = false := by rw [beq_eq_false_iff_ne]; omega
    have b7 : ((kd : Int) == 7) = false := by rw [beq_eq_false_iff_ne]; omega
    have b8 : ((kd : Int) == 8) = false := by rw [beq_eq_false_iff_ne]; omega
    have c19 := h0.r.at19
    cases ov with
    | true =>
      have c1 := h0.r.at1
      have hse := tseal_any t sx H S id wT ⟨#[]⟩ h.i.tk h.i.cr h.i.le _ h0.tp h0.s h0.tabIn
      unfold ptr wT at hse
      have HSE : Hid _ := hse
      have HX : Hid _ := And.intro h0 h.apart
      have HN : Hid _ := And.intro n6 (And.intro n7 n8)
      clear hse F0 q0 h h0 n6 n7 n8 ho
      go_enter Tryz.func9, Tryz.ntmps9
      go_wp2_with fail
      refine (HPA.out _).mono ?_
      rintro e w1 ⟨rfl, rfl⟩
      go_wp2_with fail
      refine (HPK.out _).mono ?_
      rintro e w1 ⟨rfl, rfl⟩
      go_wp2_with fail
      refine Calls.mono HSE.out ?_
      rintro e w2 ⟨s, r, S', H', rfl, hP, p2, tp2, f2⟩
      obtain ⟨e1, e2, e3, e4⟩ : s = ⟨#[]⟩ ∧ r = 10 ∧ S' = S ∧ H' = H := by
        rcases hP with ⟨_, e1, e2, e3, e4⟩ | ⟨hn, _⟩
        · exact ⟨e1, e2, e3, e4⟩
        · rw [HX.out.1.i.ov rfl] at hn; cases hn
      subst e1 e2 e3 e4
      have HM : Hid _ := And.intro p2 (And.intro tp2 f2)
      clear p2 tp2 f2 hP
      go_wp2
      go_ret
      obtain ⟨p2, tp2, f2⟩ := HM.out
      have hh := HX.out.1
      obtain ⟨r2, o2⟩ := hh.called f2
      exact ⟨rfl, HQ.out _ ⟨⟨_, _, _, _, _, _, _, _, _, ⟨r2, p2, tp2, o2, hh.i, hh.bg, hh.bs, hh.bt⟩, by omega, ⟨fun e _ => (by cases e), fun e _ => (by cases e), fun e => absurd e HN.out.2.1, fun e _ => (by cases e)⟩⟩, HB.out.1.trans (f2.low HB.out.2 (by simp; exact ⟨hh.bt, hh.bs⟩))⟩⟩
    | false =>
      rcases (by omega : kd = 0 ∨ kd = 4 ∨ kd = 5 ∨ (kd ≠ 0 ∧ kd ≠ 4 ∧ kd ≠ 5)) with rfl | rfl | rfl | ⟨n0, n4, n5⟩
      · skip
        have hmk := makes_any _ B g sx t S H K G sg top id o hid ho.b1 ho.b2 ho.c1 ho.c2 ho.s HB.out.2 h0
        unfold ptr stC at hmk
        have HMK : Hid _ := hmk
        clear hmk
        clear F0 q0 h h0 ho
        go_enter Tryz.func9, Tryz.ntmps9
        go_wp2_with fail
        refine (HPA.out _).mono ?_
        rintro e w1 ⟨rfl, rfl⟩
        go_wp2_with fail
        refine (HPK.out _).mono ?_
        rintro e w1 ⟨rfl, rfl⟩
        go_wp2_with fail
        refine (HPK.out _).mono ?_
        rintro e w1 ⟨rfl, rfl⟩
        go_wp2_with fail
        refine Calls.mono HMK.out ?_
        rintro e w2 ⟨rfl, ⟨S2, H2, K2, ov2, r2, m2⟩, be2⟩
        have HM : Hid _ := And.intro r2 (And.intro m2 be2)
        clear r2 m2 be2
        go_wp2
        go_ret
        exact ⟨rfl, HQ.out _ ⟨⟨_, _, _, _, _, _, _, _, _, HM.out.1, by omega, ⟨fun _ _ => ⟨HM.out.2.1, rfl⟩, fun _ e => by omega, fun e => by omega, fun _ e => by omega⟩⟩, HB.out.1.trans HM.out.2.2⟩⟩
      · skip
        have hop := opens_any _ B g sx t S H K G sg top o.b ho.b1 ho.b2 hln h0
        unfold ptr at hop
        have HOP : Hid _ := hop
        have HX : Hid _ := h0
        clear hop
        clear F0 q0 h h0 ho
        go_enter Tryz.func9, Tryz.ntmps9
        go_wp2_with fail
        refine (HPA.out _).mono ?_
        rintro e w1 ⟨rfl, rfl⟩
        go_wp2_with fail
        refine (HPK.out _).mono ?_
        rintro e w1 ⟨rfl, rfl⟩
        go_wp2_with fail
        refine (HPK.out _).mono ?_
        rintro e w1 ⟨rfl, rfl⟩
        go_wp2_with fail
        refine Calls.mono HOP.out ?_
        rintro e w2 ⟨rfl, f2⟩
        have HM : Hid _ := f2
        clear f2
        go_wp2
        go_ret
        exact ⟨rfl, HQ.out _ ⟨⟨_, _, _, _, _, _, _, _, _, HX.out.fr0 HM.out, by omega, ⟨fun _ e => by omega, fun _ e => by omega, fun e => by omega, fun _ _ => ⟨rfl, rfl⟩⟩⟩, HB.out.1.trans (HM.out.low HB.out.2 (by simp))⟩⟩
      · skip
        have hrt := retires_any _ B g sx t S H K G sg top id hid HB.out.2 h0
        unfold ptr at hrt
        have HRT : Hid _ := hrt
        clear hrt
        clear F0 q0 h h0 ho
        go_enter Tryz.func9, Tryz.ntmps9
        go_wp2_with fail
        refine (HPA.out _).mono ?_
        rintro e w1 ⟨rfl, rfl⟩
        go_wp2_with fail
        refine (HPK.out _).mono ?_
        rintro e w1 ⟨rfl, rfl⟩
        go_wp2_with fail
        refine (HPK.out _).mono ?_
        rintro e w1 ⟨rfl, rfl⟩
        go_wp2_with fail
        refine Calls.mono HRT.out ?_
        rintro e w2 ⟨rfl, ⟨S2, H2, K2, ov2, r2, m2⟩, be2⟩
        have HM : Hid _ := And.intro r2 be2
        clear r2 m2 be2
        go_wp2
        go_ret
        exact ⟨rfl, HQ.out _ ⟨⟨_, _, _, _, _, _, _, _, _, HM.out.1, by omega, ⟨fun _ e => by omega, fun _ e => by omega, fun e => by omega, fun _ e => by omega⟩⟩, HB.out.1.trans HM.out.2⟩⟩
      · skip
        have b0 : ((kd : Int) == 0) = false := by rw [beq_eq_false_iff_ne]; omega
        have b4 : ((kd : Int) == 4) = false := by rw [beq_eq_false_iff_ne]; omega
        have b5 : ((kd : Int) == 5) = false := by rw [beq_eq_false_iff_ne]; omega
        have hse := seals_any _ B g sx t S H K G sg top id o hid HB.out.2 hln h0
        unfold ptr stC at hse
        have HSE : Hid _ := hse
        have HN : Hid _ := And.intro n0 (And.intro n4 n7)
        clear hse n0 n4 n5 n6 n7 n8
        clear F0 q0 h h0 ho
        go_enter Tryz.func9, Tryz.ntmps9
        go_wp2_with fail
        refine (HPA.out _).mono ?_
        rintro e w1 ⟨rfl, rfl⟩
        go_wp2_with fail
        refine (HPK.out _).mono ?_
        rintro e w1 ⟨rfl, rfl⟩
        go_wp2_with fail
        refine (HPK.out _).mono ?_
        rintro e w1 ⟨rfl, rfl⟩
        go_wp2_with fail
        refine Calls.mono HSE.out ?_
        rintro e w2 ⟨rfl, ⟨S2, H2, K2, G2, ov2, sg2, top2, r2, l2, m2⟩, be2⟩
        have HM : Hid _ := And.intro r2 (And.intro l2 (And.intro m2 be2))
        clear r2 l2 m2 be2
        go_wp2
        go_ret
        exact ⟨rfl, HQ.out _ ⟨⟨_, _, _, _, _, _, _, _, _, HM.out.1, HM.out.2.1, ⟨fun _ e => absurd e HN.out.1, fun _ _ => HM.out.2.2.1, fun e => absurd e HN.out.2.2, fun _ e => absurd e HN.out.2.1⟩⟩, HB.out.1.trans HM.out.2.2.2⟩⟩
end Go.Proofs.YtgalgjmhdbncbaaGreat
