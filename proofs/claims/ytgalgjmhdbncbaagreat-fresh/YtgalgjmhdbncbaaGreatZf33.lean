import Derived.Test.YtgalgjmhdbncbaaGreatZf32
import Derived.Test.YtgalgjmhdbncbaaGreatZf24
import Derived.Test.YtgalgjmhdbncbaaGreatZf00
import Derived.Test.YtgalgjmhdbncbaaGreatZf25
import Derived.Test.YtgalgjmhdbncbaaGreatZf29
import Derived.Test.YtgalgjmhdbncbaaGreatZf13
namespace Go.Proofs.YtgalgjmhdbncbaaGreat
open Go.RowKit
attribute [local go_sem ↓] Go.wp_at_zero Go.wp_at_succ

set_option maxRecDepth 100000 in
set_option maxHeartbeats 8000000 in
theorem topen_any (g sx : Nat) (H : Nat → Hd) (S : Sto) (rec m : ByteArray) (hH : TOk H) (hrz : rec.size ≤ maxLen) (w : World) (h : TabP w g sx H) (hs : StoP w sx S) (ht : TabIn w S) :
    Calls Tryz.prog 26 #[ptr g, .string rec, .string m] w fun e w' => (∃ (s : ByteArray) (r : Int), e = .returned (.tuple #[.string s, .int .i64 r]) ∧ openP g S H rec m s r) ∧ Fr [] w w' := by
  have ho := fun w h hs ht => over_any g sx H S w h hs ht
  have hv := fun w h => live_any g sx H (rI rec : Nat) w h
  unfold ptr at ho hv ⊢
  have HO : Hid _ := ho
  have HV : Hid _ := hv
  have HT : Hid _ := ht
  have HTO : Hid _ := hH
  have HRZ : Hid _ := hrz
  clear ho hv ht hH hrz
  by_cases hov : S.tab = some g
  · rw [decide_eq_false (by simpa using hov)] at HO
    have HOV : Hid _ := hov
    go_enter Tryz.func26, Tryz.ntmps26
    go_wp2_with fail
    refine (HO.out _ h hs HT.out).mono ?_
    rintro e w1 ⟨rfl, hw⟩
    rw [hw]
    go_wp2_with fail
    refine (tooLong_any m _).mono ?_
    rintro e w2 ⟨rfl, hw2⟩
    rw [hw2]
    clear hov
    by_cases hmz : 180 < m.size
    · rw [decide_eq_true hmz]
      go_wp2
      go_ret2
      exact ⟨⟨_, 4, rfl, .inr ⟨HOV.out, .inl ⟨hmz, rfl, rfl⟩⟩⟩, Fr.refl _ _⟩
    · rw [decide_eq_false hmz]
      have hm : m.size ≤ 180 := by omega
      cases hb : badAt rec with
      | some p =>
        have hp := fun W => rparse_bad rec p HRZ.out hb W
        unfold zrec at hp
        have HP : Hid _ := hp
        have HBA : Hid (badAt rec = some p) := hb
        clear hp hb
        go_wp2_with fail
        refine (HP.out _).mono ?_
        rintro e w3 ⟨rfl, b3⟩
        have F3 := Fr.of_below [] b3 (Nat.le_refl _)
        go_wp2
        go_ret2
        exact ⟨⟨_, 7, rfl, .inr ⟨HOV.out, .inr (.inl ⟨hm, ⟨p, HBA.out⟩, rfl, rfl⟩)⟩⟩, F3.alloc _⟩
      | none =>
        have hp : ∀ W, Calls Tryz.prog 54 #[.string rec] W fun e w' => e = .returned (.tuple #[recV (rA rec) (rI rec) (rN rec) (rB rec) (rT rec), .int .i64 0, .bool true]) ∧ Below W.heap.size W w' := fun W => rparse_ok rec HRZ.out hb W
        unfold recV at hp
        have HP : Hid _ := hp
        have HBA : Hid (badAt rec = none) := hb
        clear hp hb hmz
        go_wp2_with fail
        refine (HP.out _).mono ?_
        rintro e w3 ⟨rfl, b3⟩
        have F3 := Fr.of_below [] b3 (Nat.le_refl _)
        have T3 : TabP w3 g sx H := Row.keep h b3 (Row.lt h)
        have T4 : TabP (w3.alloc (.cells #[.int .i64 (rA rec), .int .i64 (rI rec), .string (rN rec), .string (rB rec), .string (rT rec)] 52)) g sx H := Row.alloc T3 _
        have r4 : (w3.alloc (.cells #[.int .i64 (rA rec), .int .i64 (rI rec), .string (rN rec), .string (rB rec), .string (rT rec)] 52)).heap[w3.heap.size]? = some (.cells #[.int .i64 (rA rec), .int .i64 (rI rec), .string (rN rec), .string (rB rec), .string (rT rec)] 52 (0, 0)) := heap_of_new _ _ _ rfl
        have F4 := F3.alloc (.cells #[.int .i64 (rA rec), .int .i64 (rI rec), .string (rN rec), .string (rB rec), .string (rT rec)] 52)
        clear b3 F3 T3 h hs
        go_wp2_with fail
        refine (HV.out _ T4).mono ?_
        rintro e w5 ⟨⟨i, c, hL, rfl⟩, b5⟩
        have F5 := F4.trans (Fr.of_below [] b5 (Nat.le_refl _))
        have T5 : TabP w5 g sx H := Row.keep T4 b5 (Row.lt T4)
        have r5 : w5.heap[w3.heap.size]? = some (.cells #[.int .i64 (rA rec), .int .i64 (rI rec), .string (rN rec), .string (rB rec), .string (rT rec)] 52 (0, 0)) := by rw [b5.block _ (by simp)]; exact r4
        clear b5 F4 T4 r4
        generalize w3.heap.size = gr at *
        by_cases hc0 : c = 0
        · subst hc0
          have HL : Hid (liveP H (rI rec : Nat) i 0) := hL
          have hi8 : i < 8 ∧ hit H (rI rec : Nat) i ∧ (H i).c.st ≠ 2 := by
            rcases hL with ⟨a, b, c, _⟩ | ⟨_, _, h⟩ | ⟨_, _, h⟩
            · exact ⟨a, b, c⟩
            · simp at h
            · simp at h
          obtain ⟨hi, ⟨hst, hid⟩, hn2⟩ := hi8
          have hck := HTO.out i hi hst
          have hst1 : (H i).c.st = 1 := by rcases hck.st with a | a; exact a; exact absurd a hn2
          have hop := hopen_any g (1 + i * 10) (H i) rec m HBA.out hck hst1 hm w5.drew (Row.lt T5) (HdAt.drew (T5.hd i hi))
          unfold recV at hop
          have HOP : Hid _ := hop
          have hi2 : ((i : Nat) : Int) < 8 := by omega
          clear hop hck hst1 hst hid hn2 hL
          go_wp2_with fail
          refine wp_region_held_drew (S := fun W' => W'.heap[gr]? = some (.cells #[.int .i64 (rA rec), .int .i64 (rI rec), .string (rN rec), .string (rB rec), .string (rT rec)] 52 (0, 0))) (by kernel_rfl) r5 (fun hHeld => ?_)
          refine wpAnyH_take (i := 0) (v := ?v1) rfl (by kernel_rfl) (by kernel_rfl) (by kernel_rfl) (fun _ _ _ h => h) (Or.inl ⟨by rfl, ?y1⟩) (by assumption) ?r1
          case y1 => (intro W' hW; go_simp; try with_reducible rfl)
          try simp only [Act.put, List.getElem_toArray, List.getElem_cons_zero, List.setIfInBounds_toArray, List.set_cons_zero, List.set_cons_succ]
          refine wpAnyH_take (i := 1) (v := ?v2) rfl (by kernel_rfl) (by kernel_rfl) (by kernel_rfl) (fun _ _ _ h => h) (Or.inl ⟨by rfl, ?y2⟩) (by assumption) ?r2
          case y2 => (intro W' hW; go_simp; try with_reducible rfl)
          try simp only [Act.put, List.getElem_toArray, List.getElem_cons_zero, List.getElem_cons_succ, List.setIfInBounds_toArray, List.set_cons_zero, List.set_cons_succ]
          refine wpAnyH_take (i := 2) (v := ?v3) rfl (by kernel_rfl) (by kernel_rfl) (by kernel_rfl) (fun _ _ _ h => h) (Or.inl ⟨by rfl, ?y3⟩) (by assumption) ?r3
          case y3 => (intro W' hW; go_simp; try with_reducible rfl)
          try simp only [Act.put, List.getElem_toArray, List.getElem_cons_zero, List.getElem_cons_succ, List.setIfInBounds_toArray, List.set_cons_zero, List.set_cons_succ]
          refine wpAnyH_take (i := 3) (v := ?v4) rfl (by kernel_rfl) (by kernel_rfl) (by kernel_rfl) (fun _ _ _ h => h) (Or.inl ⟨by rfl, ?y4⟩) (by assumption) ?r4
          case y4 => (intro W' hW; go_simp; try with_reducible rfl)
          try simp only [Act.put, List.getElem_toArray, List.getElem_cons_zero, List.getElem_cons_succ, List.setIfInBounds_toArray, List.set_cons_zero, List.set_cons_succ]
          refine wpAnyH_take (i := 4) (v := ?v5) rfl (by kernel_rfl) (by kernel_rfl) (by kernel_rfl) (fun _ _ _ h => h) (Or.inl ⟨by rfl, ?y5⟩) (by assumption) ?r5
          case y5 => (intro W' hW; go_simp; try with_reducible rfl)
          try simp only [Act.put, List.getElem_toArray, List.getElem_cons_zero, List.getElem_cons_succ, List.setIfInBounds_toArray, List.set_cons_zero, List.set_cons_succ]
          refine wpAnyH_take (i := 5) (v := ?v6) rfl (by kernel_rfl) (by kernel_rfl) (by kernel_rfl) (fun _ _ _ h => h) (Or.inl ⟨by rfl, ?y6⟩) (by assumption) ?r6
          case y6 => (intro W' hW; obtain ⟨q0, q1, q2, q3, q4⟩ := cells5 hW; go_simp; try with_reducible rfl)
          try simp only [Act.put, List.getElem_toArray, List.getElem_cons_zero, List.getElem_cons_succ, List.setIfInBounds_toArray, List.set_cons_zero, List.set_cons_succ]
          refine wpAnyH_take (i := 6) (v := ?v7) rfl (by kernel_rfl) (by kernel_rfl) (by kernel_rfl) (fun _ _ _ h => h) (Or.inl ⟨by rfl, ?y7⟩) (by assumption) ?r7
          case y7 => (intro W' hW; go_simp; try with_reducible rfl)
          try simp only [Act.put, List.getElem_toArray, List.getElem_cons_zero, List.getElem_cons_succ, List.setIfInBounds_toArray, List.set_cons_zero, List.set_cons_succ]
          refine wpAnyH_ready (rs := [7]) (by kernel_rfl) (by simp) ?_
          refine AllReadyH.cons rfl (fun K hK => ?_) ?nil7
          case nil7 => exact AllReadyH.nil
          go_simp
          refine Calls.mono HOP.out ?_
          rintro e wb ⟨⟨s, ok, rfl, hRR⟩, fb⟩
          have rb : wb.heap[gr]? = some (.cells #[.int .i64 (rA rec), .int .i64 (rI rec), .string (rN rec), .string (rB rec), .string (rT rec)] 52 (0, 0)) := keepRow fb r5 (by simp)
          have Fb := (Fr.drew F5).trans fb
          have HRR : Hid _ := hRR
          clear hRR
          go_wp2_with fail
          refine hK.out _ _ rb (fun hHeld => ?_)
          clear hK K
          refine wpAnyH_take (i := 8) (v := ?v8) rfl (by kernel_rfl) (by kernel_rfl) (by kernel_rfl) (fun _ _ _ h => h) (Or.inl ⟨by rfl, ?y8⟩) (by assumption) ?r8
          case y8 => (intro W' hW; go_simp; try with_reducible rfl)
          try simp only [Act.put, List.getElem_toArray, List.getElem_cons_zero, List.getElem_cons_succ, List.setIfInBounds_toArray, List.set_cons_zero, List.set_cons_succ]
          refine wpAnyH_take (i := 9) (v := ?v9) rfl (by kernel_rfl) (by kernel_rfl) (by kernel_rfl) (fun _ _ _ h => h) (Or.inl ⟨by rfl, ?y9⟩) (by assumption) ?r9
          case y9 => (intro W' hW; go_simp; try with_reducible rfl)
          try simp only [Act.put, List.getElem_toArray, List.getElem_cons_zero, List.getElem_cons_succ, List.setIfInBounds_toArray, List.set_cons_zero, List.set_cons_succ]
          refine wpAnyH_take (i := 10) (v := ?v10) rfl (by kernel_rfl) (by kernel_rfl) (by kernel_rfl) (fun _ _ _ h => h) (Or.inl ⟨by rfl, ?y10⟩) (by assumption) ?r10
          case y10 => (intro W' hW; go_simp; try with_reducible rfl)
          try simp only [Act.put, List.getElem_toArray, List.getElem_cons_zero, List.getElem_cons_succ, List.setIfInBounds_toArray, List.set_cons_zero, List.set_cons_succ]
          refine wpAnyH_take (i := 11) (v := ?v11) rfl (by kernel_rfl) (by kernel_rfl) (by kernel_rfl) (fun _ _ _ h => h) (Or.inl ⟨by rfl, ?y11⟩) (by assumption) ?r11
          case y11 => (intro W' hW; go_simp; try with_reducible rfl)
          try simp only [Act.put, List.getElem_toArray, List.getElem_cons_zero, List.getElem_cons_succ, List.setIfInBounds_toArray, List.set_cons_zero, List.set_cons_succ]
          refine wpAnyH_take (i := 12) (v := ?v12) rfl (by kernel_rfl) (by kernel_rfl) (by kernel_rfl) (fun _ _ _ h => h) (Or.inl ⟨by rfl, ?y12⟩) (by assumption) ?r12
          case y12 => (intro W' hW; go_simp; try with_reducible rfl)
          try simp only [Act.put, List.getElem_toArray, List.getElem_cons_zero, List.getElem_cons_succ, List.setIfInBounds_toArray, List.set_cons_zero, List.set_cons_succ]
          refine wpAnyH_done (by kernel_rfl) ?_ _
          cases ok with
          | true =>
            go_wp2
            go_ret2
            exact ⟨⟨_, 0, rfl, .inr ⟨HOV.out, .inr (.inr ⟨hm, HBA.out, i, 0, HL.out, .inr ⟨rfl, HRR.out⟩⟩)⟩⟩, Fb⟩
          | false =>
            go_wp2
            go_ret2
            rcases HRR.out with ⟨h1, h2, h3⟩ | ⟨h1, h2, h3⟩
            · subst h2
              exact ⟨⟨_, 6, rfl, .inr ⟨HOV.out, .inr (.inr ⟨hm, HBA.out, i, 0, HL.out, .inr ⟨rfl, .inl ⟨h1, rfl, rfl⟩⟩⟩)⟩⟩, Fb⟩
            · simp at h3
        · have ec : (c == 0) = false := by rw [beq_eq_false_iff_ne]; exact hc0
          have HL : Hid (liveP H (rI rec : Nat) i c) := hL
          clear hL
          go_wp2
          go_ret2
          exact ⟨⟨_, c, rfl, .inr ⟨HOV.out, .inr (.inr ⟨hm, HBA.out, i, c, HL.out, .inl ⟨hc0, rfl, rfl⟩⟩)⟩⟩, F5⟩
  · rw [decide_eq_true (by simpa using hov)] at HO
    go_enter Tryz.func26, Tryz.ntmps26
    go_wp2_with fail
    refine (HO.out _ h hs HT.out).mono ?_
    rintro e w1 ⟨rfl, hw⟩
    rw [hw]
    go_wp2
    go_ret2
    exact ⟨⟨_, 10, rfl, .inl ⟨hov, rfl, rfl⟩⟩, Fr.refl _ _⟩
end Go.Proofs.YtgalgjmhdbncbaaGreat
namespace Go.Proofs.YtgalgjmhdbncbaaGreat
open Go.RowKit

def t14c (c : Cl) : Nat → UInt8
  | 0 => 107
  | 1 => UInt8.ofNat c.alg
  | 2 => UInt8.ofNat (c.id / 256)
  | 3 => UInt8.ofNat c.id
  | 4 => sf c.fix 0
  | 5 => sf c.fix 1
  | 6 => sf c.fix 2
  | 7 => sf c.fix 3
  | 8 => UInt8.ofNat (c.seals / 256)
  | 9 => UInt8.ofNat c.seals
  | 10 => UInt8.ofNat c.ahead
  | 11 => UInt8.ofNat c.most
  | 12 => UInt8.ofNat (c.res / 256)
  | 13 => UInt8.ofNat c.res
  | _ => UInt8.ofNat c.st
theorem c15 {P : Nat → Prop} (h0 : P 0) (h1 : P 1) (h2 : P 2) (h3 : P 3) (h4 : P 4) (h5 : P 5) (h6 : P 6) (h7 : P 7) (h8 : P 8) (h9 : P 9) (h10 : P 10) (h11 : P 11) (h12 : P 12) (h13 : P 13) (h14 : P 14) : ∀ j, j < 15 → P j := by
  intro j hj
  rcases (by omega : j = 0 ∨ j = 1 ∨ j = 2 ∨ j = 3 ∨ j = 4 ∨ j = 5 ∨ j = 6 ∨ j = 7 ∨ j = 8 ∨ j = 9 ∨ j = 10 ∨ j = 11 ∨ j = 12 ∨ j = 13 ∨ j = 14) with rfl | rfl | rfl | rfl | rfl | rfl | rfl | rfl | rfl | rfl | rfl | rfl | rfl | rfl | rfl <;> assumption
theorem cell_at (c : Cl) (hf : c.fix.size = 4) : ∀ j, j < 15 → sf (cellT c) j = t14c c j := by
  have hk : kT.size = 1 := rfl
  have hk0 : sf kT 0 = 107 := rfl
  have hc : ∀ j, j < 15 → sf (cellT c) j = if j = 14 then UInt8.ofNat c.st else rF c 6 j := by
    intro j hj
    unfold cellT
    rw [sf_append, str_size, if_pos hj, sf_str _ _ _ hj]
  refine c15 ?_ ?_ ?_ ?_ ?_ ?_ ?_ ?_ ?_ ?_ ?_ ?_ ?_ ?_ ?_ <;> rw [hc _ (by omega)] <;> simp [rF, putF, cpF, fA, fZ, cv, numF, t14c, hk, hk0, hf]
theorem byte_of (n : Nat) (h : n < 256) : (UInt8.ofNat n).toNat = n := by rw [UInt8.toNat_ofNat']; omega
theorem two_of (n : Nat) (h : n < 65536) : (UInt8.ofNat (n / 256)).toNat * 256 + (UInt8.ofNat n).toNat = n := by
  rw [UInt8.toNat_ofNat', UInt8.toNat_ofNat']; omega
theorem cell_back (c : Cl) (h : ClOk c) : ofOk (cellT c) ∧ ofC (cellT c) = c ∧ (cellT c).size ≤ 64 := by
  have hz := cellT_size c
  have ha := cell_at c h.fix
  have hky := h.key
  have hal := h.alg
  have hst := h.st
  have hid := h.id
  obtain ⟨⟨q1, q2⟩, ⟨q3, q4⟩, ⟨q5, q6⟩⟩ := h.cfg
  have hre := h.res
  have hfx := h.fix
  have hks : c.key.size ≤ 32 := by rw [hky]; split <;> omega
  have e0 : sf (cellT c) 0 = 107 := ha 0 (by omega)
  have e1 : sf (cellT c) 1 = UInt8.ofNat c.alg := ha 1 (by omega)
  have e2 : sf (cellT c) 2 = UInt8.ofNat (c.id / 256) := ha 2 (by omega)
  have e3 : sf (cellT c) 3 = UInt8.ofNat c.id := ha 3 (by omega)
  have e8 : sf (cellT c) 8 = UInt8.ofNat (c.seals / 256) := ha 8 (by omega)
  have e9 : sf (cellT c) 9 = UInt8.ofNat c.seals := ha 9 (by omega)
  have e10 : sf (cellT c) 10 = UInt8.ofNat c.ahead := ha 10 (by omega)
  have e11 : sf (cellT c) 11 = UInt8.ofNat c.most := ha 11 (by omega)
  have e12 : sf (cellT c) 12 = UInt8.ofNat (c.res / 256) := ha 12 (by omega)
  have e13 : sf (cellT c) 13 = UInt8.ofNat c.res := ha 13 (by omega)
  have e14 : sf (cellT c) 14 = UInt8.ofNat c.st := ha 14 (by omega)
  have f4 : (cellT c).extract 4 8 = c.fix := by
    apply bytes_ext
    · rw [cut_size _ _ _ (by omega)]; omega
    · intro j hj
      rw [cut_size _ _ _ (by omega)] at hj
      rw [sf_cut _ _ _ _ (by omega) (by omega), ha _ (by omega)]
      rcases (by omega : j = 0 ∨ j = 1 ∨ j = 2 ∨ j = 3) with rfl | rfl | rfl | rfl <;> rfl
  have f15 : (cellT c).extract 15 (cellT c).size = c.key := by
    apply bytes_ext
    · rw [cut_size _ _ _ (Nat.le_refl _)]; omega
    · intro j hj
      rw [cut_size _ _ _ (Nat.le_refl _)] at hj
      rw [sf_cut _ _ _ _ (Nat.le_refl _) (by omega)]
      unfold cellT
      rw [sf_append, str_size, if_neg (by omega), show 15 + j - 15 = j by omega]
  have hr : rdC (cellT c) 6 = c := by
    have hv1 : ∀ a, valF (sf (cellT c)) a 1 = (sf (cellT c) a).toNat := fun a => by simp [valF]
    have hv2 : ∀ a, valF (sf (cellT c)) a 2 = (sf (cellT c) a).toNat * 256 + (sf (cellT c) (a + 1)).toNat := fun a => by simp [valF]
    have g0 : vk (cellT c) 0 = c.alg := by show valF _ 1 1 = _; rw [hv1, e1, byte_of _ (by omega)]
    have g1 : vk (cellT c) 1 = c.id := by show valF _ 2 2 = _; rw [hv2, e2, e3, two_of _ (by omega)]
    have g2 : vk (cellT c) 2 = c.seals := by show valF _ 8 2 = _; rw [hv2, e8, e9, two_of _ (by omega)]
    have g3 : vk (cellT c) 3 = c.ahead := by show valF _ 10 1 = _; rw [hv1, e10, byte_of _ (by omega)]
    have g4 : vk (cellT c) 4 = c.most := by show valF _ 11 1 = _; rw [hv1, e11, byte_of _ (by omega)]
    have g5 : vk (cellT c) 5 = c.res := by show valF _ 12 2 = _; rw [hv2, e12, e13, two_of _ (by omega)]
    unfold rdC
    rw [if_pos (by omega), if_pos (by omega), if_pos (by omega), if_pos (by omega), if_pos (by omega), if_pos (by omega), g0, g1, g2, g3, g4, g5, f4, f15, e14, byte_of _ (by omega)]
  refine ⟨.inr ⟨by omega, e0, ?_⟩, ?_, by omega⟩
  · rw [hr]
    refine ⟨h.alg, h.cfg, h.res, ?_⟩
    rcases h.st with h1 | h2
    · rw [if_pos h1] at hky; exact .inl ⟨h1, hky⟩
    · rw [if_neg (by omega)] at hky; exact .inr ⟨h2, hky⟩
  · unfold ofC
    rw [if_neg (by omega), hr]
theorem ofOk_cl (s : ByteArray) (h : ofOk s) (h0 : (ofC s).st ≠ 0) : ClOk (ofC s) := by
  unfold ofC at h0 ⊢
  split at h0
  · exact absurd rfl h0
  · rename_i hz
    rw [if_neg hz]
    rcases h with h | ⟨h1, h2, h3, h4, h5, h6⟩
    · exact absurd h hz
    · refine ⟨?_, h3, ?_, ?_, h4, h5, ?_⟩
      · rcases h6 with ⟨a, _⟩ | ⟨a, _⟩
        · exact .inl a
        · exact .inr a
      · show vk s 1 ≤ 65535
        unfold vk
        show valF (sf s) 2 2 ≤ 65535
        have a := (sf s 2).toNat_lt
        have b := (sf s 3).toNat_lt
        simp [valF]
        omega
      · show (s.extract 4 8).size = 4
        rw [cut_size _ _ _ (by omega)]
      · rcases h6 with ⟨a, b⟩ | ⟨a, b⟩
        · rw [if_pos a]; exact b
        · rw [if_neg (by omega)]; exact b

structure Ky where
  there : Nat
  ret : Nat
  seals : Nat
  given : Nat
structure Gv where
  id : Nat
  txt : ByteArray
  plain : ByteArray
def fixT (id : Nat) : ByteArray := ⟨#[102, 105, 120, UInt8.ofNat (48 + id)]⟩
def wT : ByteArray := ⟨#[119, 105, 116, 104]⟩
def zKy : Ky := ⟨0, 0, 0, 0⟩
def setK (K : Nat → Ky) (i : Nat) (k : Ky) (j : Nat) : Ky := if j = i then k else K j
def setN (T : Nat → Nat) (i : Nat) (n : Nat) (j : Nat) : Nat := if j = i then n else T j
theorem setK_at (K : Nat → Ky) (i : Nat) (k : Ky) : setK K i k i = k := if_pos rfl
theorem setK_ne (K : Nat → Ky) (i j : Nat) (k : Ky) (h : j ≠ i) : setK K i k j = K j := if_neg h
theorem setN_at (T : Nat → Nat) (i n : Nat) : setN T i n i = n := if_pos rfl
theorem setN_ne (T : Nat → Nat) (i j n : Nat) (h : j ≠ i) : setN T i n j = T j := if_neg h
structure CkOk (D : Cl) (k : Ky) (top : Nat) : Prop where
  ok : ClOk D
  id : D.id < 4
  fix : D.fix = fixT D.id
  most : D.most = 20
  there : k.there ≠ 0
  seals : k.seals = D.seals
  top : top ≤ D.res
  r1 : k.ret = 1 → D.st = 2
  r0 : k.ret = 0 → D.st = 1
structure GvOk (D : Nat → Cl) (g : Gv) (k : Ky) (top : Nat) (c : Cl) (n : Nat) : Prop where
  id : g.id < 4
  there : k.there = 1
  ok : ClOk c
  st : c.st = 1
  ci : c.id = g.id
  fix : c.fix = fixT g.id
  lt : n < top
  z : g.plain.size ≤ 20
  tx : g.txt = sealR ⟨c, n⟩ wT g.plain
  key : ∀ j, j < 8 → (D j).st = 1 → (D j).id = g.id → c.key = (D j).key ∧ c.alg = (D j).alg
structure Dk (D : Nat → Cl) (K : Nat → Ky) (G : List Gv) (top : Nat → Nat) : Prop where
  uq : ∀ i j, i < 8 → j < 8 → (D i).st ≠ 0 → (D j).st ≠ 0 → (D i).id = (D j).id → i = j
  ok : ∀ j, j < 8 → (D j).st ≠ 0 → CkOk (D j) (K (D j).id) (top (D j).id)
  th : ∀ id, id < 4 → (K id).there = 1 → ∃ j, j < 8 ∧ (D j).st ≠ 0 ∧ (D j).id = id
  gt : ∀ id, id < 4 → (K id).given ≤ top id
  ny : ∀ id, id < 4 → (K id).there ≠ 1 → (K id).ret = 0 ∧ top id = 0
  gv : ∀ g ∈ G, ∃ c n, GvOk D g (K g.id) (top g.id) c n
structure Lv (S : Sto) (t : Nat) (H : Nat → Hd) (K : Nat → Ky) (top : Nat → Nat) : Prop where
  tab : S.tab = some t
  eq : ∀ j, j < 8 → (H j).c = ofC (S.cell j)
  ct : ∀ j, j < 8 → (H j).c.st ≠ 0 → top (H j).c.id ≤ (H j).ctr ∧ (H j).ctr ≤ (H j).c.res
  z : ∀ j, j < 8 → (H j).c.st = 0 → (H j).ctr = 0
  yn : ∀ id, id < 4 → (K id).there ≤ 1 ∧ (K id).ret ≤ 1
def Cs (S : Sto) : Prop := ∀ j, j < 8 → ofOk (S.cell j) ∧ (S.cell j).size ≤ 64
structure RI (S : Sto) (t : Nat) (H : Nat → Hd) (K : Nat → Ky) (G : List Gv) (over : Bool) (top : Nat → Nat) : Prop where
  cs : Cs S
  dk : Dk (fun j => ofC (S.cell j)) K G top
  lv : over = false → Lv S t H K top
  ov : over = true → S.tab = none
  le : S.left ≤ 9223372036854775807
  tk : TOk H
  cr : ∀ i, i < 8 → (H i).c.st ≠ 0 → (H i).ctr ≤ 1000000
theorem wrote_cell (S : Sto) (i : Nat) (c : Cl) (hi : i < 8) (hc : ClOk c) : (wroteM S i (cellT c)).left = S.left - 1 ∧ (wroteM S i (cellT c)).tab = S.tab ∧ (∀ j, j ≠ i → (wroteM S i (cellT c)).cell j = S.cell j) ∧ ((wroteM S i (cellT c)).cell i = cellT c ∨ (S.left = 1 ∧ (wroteM S i (cellT c)).cell i = S.cell i)) := by
  have hin : inCell (i : Int) = true := by simp [inCell]; omega
  have hz := (cell_back c hc).2.2
  unfold wroteM
  rw [if_neg (by rw [hin]; decide), if_neg (by omega)]
  refine ⟨rfl, rfl, fun j hj => ?_, ?_⟩
  · dsimp only
    split
    · rfl
    · dsimp only
      rw [Int.toNat_natCast, if_neg hj]
  · dsimp only
    split
    · rename_i h; exact .inr ⟨h.1, rfl⟩
    · dsimp only
      rw [Int.toNat_natCast, if_pos rfl]; exact .inl rfl
theorem Cs.wrote {S : Sto} (h : Cs S) (i : Nat) (c : Cl) (hi : i < 8) (hc : ClOk c) : Cs (wroteM S i (cellT c)) := by
  obtain ⟨_, _, h1, h2⟩ := wrote_cell S i c hi hc
  intro j hj
  by_cases e : j = i
  · subst e
    rcases h2 with h2 | ⟨_, h2⟩
    · rw [h2]; exact ⟨(cell_back c hc).1, (cell_back c hc).2.2⟩
    · rw [h2]; exact h j hj
  · rw [h1 j e]; exact h j hj
theorem wrote_ofC (S : Sto) (i : Nat) (c : Cl) (hi : i < 8) (hc : ClOk c) : (∀ j, ofC ((wroteM S i (cellT c)).cell j) = if j = i then c else ofC (S.cell j)) ∨ (S.left = 1 ∧ ∀ j, ofC ((wroteM S i (cellT c)).cell j) = ofC (S.cell j)) := by
  obtain ⟨_, _, h1, h2⟩ := wrote_cell S i c hi hc
  rcases h2 with h2 | ⟨hl, h2⟩
  · refine .inl fun j => ?_
    by_cases e : j = i
    · subst e; rw [if_pos rfl, h2, (cell_back c hc).2.1]
    · rw [if_neg e, h1 j e]
  · refine .inr ⟨hl, fun j => ?_⟩
    by_cases e : j = i
    · subst e; rw [h2]
    · rw [h1 j e]
end Go.Proofs.YtgalgjmhdbncbaaGreat
