import Derived.Test.YtgalgjmhdbncbabGreatZb00
import Derived.Test.YtgalgjmhdbncbabGreatZb36
import Derived.Test.YtgalgjmhdbncbabGreatZb20
import Derived.Test.YtgalgjmhdbncbabGreatZb33
namespace Go.Proofs.YtgalgjmhdbncbabGreat
open Go.RowKit
attribute [local go_sem ↓] Go.wp_at_zero Go.wp_at_succ

set_option maxRecDepth 100000 in
set_option maxHeartbeats 8000000 in
theorem topen_any (g sx : Nat) (H : Nat → Hd) (S : Sto) (rec m : ByteArray) (hH : TOk H) (hrz : rec.size ≤ maxLen) (w : World) (h : TabP w g sx H) (hs : StoP w sx S) (ht : TabIn w S) :
    Calls Tryz.prog 73 #[ptr g, .string rec, .string m] w fun e w' => (∃ (s : ByteArray) (r : Int), e = .returned (.tuple #[.string s, .int .i64 r]) ∧ openP g S H rec m s r) ∧ Fr [] w w' := by
  have ho := fun w h hs ht => over_any g sx H S w h hs ht
  have hv := fun w h => live_any g sx H (rI rec : Nat) w h
  unfold ptr at ho hv ⊢
  have HO : Hid _ := ho
  have HV : Hid _ := hv
  have HT : Hid _ := ht
  have HTO : Hid _ := hH
  have HRZ : Hid _ := hrz
  clear ho hv ht hH hrz
  by_cases hov : S.tab = some g
  · rw [decide_eq_false (by simpa using hov)] at HO
    have HOV : Hid _ := hov
    go_enter Tryz.func73, Tryz.ntmps73
    go_wp2_with fail
    refine (HO.out _ h hs HT.out).mono ?_
    rintro e w1 ⟨rfl, hw⟩
    rw [hw]
    go_wp2_with fail
    refine (tooLong_any m _).mono ?_
    rintro e w2 ⟨rfl, hw2⟩
    rw [hw2]
    clear hov
    by_cases hmz : 180 < m.size
    · rw [decide_eq_true hmz]
      go_wp2
      go_ret2
      exact ⟨⟨_, 4, rfl, .inr ⟨HOV.out, .inl ⟨hmz, rfl, rfl⟩⟩⟩, Fr.refl _ _⟩
    · rw [decide_eq_false hmz]
      have hm : m.size ≤ 180 := by omega
      cases hb : badAt rec with
      | some p =>
        have hp := fun W => rparse_bad rec p HRZ.out hb W
        unfold zrec at hp
        have HP : Hid _ := hp
        have HBA : Hid (badAt rec = some p) := hb
        clear hp hb
        go_wp2_with fail
        refine (HP.out _).mono ?_
        rintro e w3 ⟨rfl, b3⟩
        have F3 := Fr.of_below [] b3 (Nat.le_refl _)
        go_wp2
        go_ret2
        exact ⟨⟨_, 7, rfl, .inr ⟨HOV.out, .inr (.inl ⟨hm, ⟨p, HBA.out⟩, rfl, rfl⟩)⟩⟩, F3.alloc _⟩
      | none =>
        have hp : ∀ W, Calls Tryz.prog 93 #[.string rec] W fun e w' => e = .returned (.tuple #[recV (rA rec) (rI rec) (rN rec) (rB rec) (rT rec), .int .i64 0, .bool true]) ∧ Below W.heap.size W w' := fun W => rparse_ok rec HRZ.out hb W
        unfold recV at hp
        have HP : Hid _ := hp
        have HBA : Hid (badAt rec = none) := hb
        clear hp hb hmz
        go_wp2_with fail
        refine (HP.out _).mono ?_
        rintro e w3 ⟨rfl, b3⟩
        have F3 := Fr.of_below [] b3 (Nat.le_refl _)
        have T3 : TabP w3 g sx H := Row.keep h b3 (Row.lt h)
        have T4 : TabP (w3.alloc (.cells #[.int .i64 (rA rec), .int .i64 (rI rec), .string (rN rec), .string (rB rec), .string (rT rec)] 35)) g sx H := Row.alloc T3 _
        have r4 : (w3.alloc (.cells #[.int .i64 (rA rec), .int .i64 (rI rec), .string (rN rec), .string (rB rec), .string (rT rec)] 35)).heap[w3.heap.size]? = some (.cells #[.int .i64 (rA rec), .int .i64 (rI rec), .string (rN rec), .string (rB rec), .string (rT rec)] 35 (0, 0)) := heap_of_new _ _ _ rfl
        have F4 := F3.alloc (.cells #[.int .i64 (rA rec), .int .i64 (rI rec), .string (rN rec), .string (rB rec), .string (rT rec)] 35)
        clear b3 F3 T3 h hs
        go_wp2_with fail
        refine (HV.out _ T4).mono ?_
        rintro e w5 ⟨⟨i, c, hL, rfl⟩, b5⟩
        have F5 := F4.trans (Fr.of_below [] b5 (Nat.le_refl _))
        have T5 : TabP w5 g sx H := Row.keep T4 b5 (Row.lt T4)
        have r5 : w5.heap[w3.heap.size]? = some (.cells #[.int .i64 (rA rec), .int .i64 (rI rec), .string (rN rec), .string (rB rec), .string (rT rec)] 35 (0, 0)) := by rw [b5.block _ (by simp)]; exact r4
        clear b5 F4 T4 r4
        generalize w3.heap.size = gr at *
        by_cases hc0 : c = 0
        · subst hc0
          have HL : Hid (liveP H (rI rec : Nat) i 0) := hL
          have hi8 : i < 8 ∧ hit H (rI rec : Nat) i ∧ (H i).c.st ≠ 2 := by
            rcases hL with ⟨a, b, c, _⟩ | ⟨_, _, h⟩ | ⟨_, _, h⟩
            · exact ⟨a, b, c⟩
            · simp at h
            · simp at h
          obtain ⟨hi, ⟨hst, hid⟩, hn2⟩ := hi8
          have hck := HTO.out i hi hst
          have hst1 : (H i).c.st = 1 := by rcases hck.st with a | a; exact a; exact absurd a hn2
          have hop := hopen_any g (1 + i * 10) (H i) rec m HBA.out hck hst1 hm w5.drew (Row.lt T5) (HdAt.drew (T5.hd i hi))
          unfold recV at hop
          have HOP : Hid _ := hop
          have hi2 : ((i : Nat) : Int) < 8 := by omega
          clear hop hck hst1 hst hid hn2 hL
          go_wp2_with fail
          refine wp_region_held_drew (S := fun W' => W'.heap[gr]? = some (.cells #[.int .i64 (rA rec), .int .i64 (rI rec), .string (rN rec), .string (rB rec), .string (rT rec)] 35 (0, 0))) (by kernel_rfl) r5 (fun hHeld => ?_)
          refine tp 0 _ ?r1
          refine nz ?_
          refine tp 1 _ ?r2
          refine nz ?_
          refine tp 2 _ ?r3
          refine nz ?_
          refine tp 3 _ ?r4
          refine nz ?_
          refine tp 4 _ ?r5
          refine nz ?_
          refine tk 5 ?v6 ?y6 ?r6
          case y6 => (intro W' hW; obtain ⟨q0, q1, q2, q3, q4⟩ := cells5 hW; go_simp; try with_reducible rfl)
          refine nz ?_
          refine tp 6 _ ?r7
          refine nz ?_
          refine wpAnyH_ready (rs := [7]) (by kernel_rfl) (by simp) ?_
          refine AllReadyH.cons rfl (fun K hK => ?_) ?nil7
          case nil7 => exact AllReadyH.nil
          go_simp
          refine Calls.mono HOP.out ?_
          rintro e wb ⟨⟨s, ok, rfl, hRR⟩, fb⟩
          have rb : wb.heap[gr]? = some (.cells #[.int .i64 (rA rec), .int .i64 (rI rec), .string (rN rec), .string (rB rec), .string (rT rec)] 35 (0, 0)) := keepRow fb r5 (by simp)
          have Fb := (Fr.drew F5).trans fb
          have HRR : Hid _ := hRR
          clear hRR
          go_wp2_with fail
          refine hK.out _ _ rb (fun hHeld => ?_)
          clear hK K
          refine tp 8 _ ?r8
          refine nz ?_
          refine tp 9 _ ?r9
          refine nz ?_
          refine tp 10 _ ?r10
          refine nz ?_
          refine tp 11 _ ?r11
          refine nz ?_
          refine tp 12 _ ?r12
          refine nz ?_
          refine wpAnyH_done (by kernel_rfl) ?_ _
          cases ok with
          | true =>
            go_wp2
            go_ret2
            exact ⟨⟨_, 0, rfl, .inr ⟨HOV.out, .inr (.inr ⟨hm, HBA.out, i, 0, HL.out, .inr ⟨rfl, HRR.out⟩⟩)⟩⟩, Fb⟩
          | false =>
            go_wp2
            go_ret2
            rcases HRR.out with ⟨h1, h2, h3⟩ | ⟨h1, h2, h3⟩
            · subst h2
              exact ⟨⟨_, 6, rfl, .inr ⟨HOV.out, .inr (.inr ⟨hm, HBA.out, i, 0, HL.out, .inr ⟨rfl, .inl ⟨h1, rfl, rfl⟩⟩⟩)⟩⟩, Fb⟩
            · simp at h3
        · have ec : (c == 0) = false := by rw [beq_eq_false_iff_ne]; exact hc0
          have HL : Hid (liveP H (rI rec : Nat) i c) := hL
          clear hL
          go_wp2
          go_ret2
          exact ⟨⟨_, c, rfl, .inr ⟨HOV.out, .inr (.inr ⟨hm, HBA.out, i, c, HL.out, .inl ⟨hc0, rfl, rfl⟩⟩)⟩⟩, F5⟩
  · rw [decide_eq_true (by simpa using hov)] at HO
    go_enter Tryz.func73, Tryz.ntmps73
    go_wp2_with fail
    refine (HO.out _ h hs HT.out).mono ?_
    rintro e w1 ⟨rfl, hw⟩
    rw [hw]
    go_wp2
    go_ret2
    exact ⟨⟨_, 10, rfl, .inl ⟨hov, rfl, rfl⟩⟩, Fr.refl _ _⟩
end Go.Proofs.YtgalgjmhdbncbabGreat
namespace Go.Proofs.YtgalgjmhdbncbabGreat
open Go.RowKit

structure HRel (h : Rh) (d : Hd) : Prop where
  alg : h.alg = d.c.alg
  id : h.id = d.c.id
  fix : h.fix = d.c.fix
  seals : h.seals = d.c.seals
  ahead : h.ahead = d.c.ahead
  most : h.most = d.c.most
  res : h.res = d.c.res
  ret : h.ret = decide (d.c.st = 2)
  key : d.c.st = 1 → h.key = d.c.key
  ctr : h.ctr = d.ctr
  kz : h.key.size ≤ 1000
  ok : ClOk d.c
  cr : d.ctr ≤ d.c.res
theorem HRel.st {h : Rh} {d : Hd} (r : HRel h d) : d.c.st ≠ 0 := by
  have := r.ok.st
  omega
theorem HRel.sm {h : Rh} {d : Hd} (r : HRel h d) : RhSm h := by
  have h1 := r.ok.alg
  have h2 := r.ok.id
  have h3 := r.ok.fix
  obtain ⟨⟨a1, a2⟩, ⟨a3, a4⟩, ⟨a5, a6⟩⟩ := r.ok.cfg
  have h5 := r.ok.res
  exact ⟨by rw [r.alg]; omega, by rw [r.id]; omega, by rw [r.fix]; omega, by rw [r.seals]; omega, by rw [r.ahead]; omega, by rw [r.most]; omega, by rw [r.res]; omega, r.kz⟩
def occ1 (d : Hd) : Nat := if d.c.st = 0 then 0 else 1
def occ (H : Nat → Hd) : Nat := occ1 (H 0) + occ1 (H 1) + occ1 (H 2) + occ1 (H 3) + occ1 (H 4) + occ1 (H 5) + occ1 (H 6) + occ1 (H 7)
theorem occ1_le (d : Hd) : occ1 d ≤ 1 := by unfold occ1; split <;> omega
theorem occ_le (H : Nat → Hd) : occ H ≤ 8 := by
  unfold occ
  have h0 := occ1_le (H 0); have h1 := occ1_le (H 1); have h2 := occ1_le (H 2); have h3 := occ1_le (H 3)
  have h4 := occ1_le (H 4); have h5 := occ1_le (H 5); have h6 := occ1_le (H 6); have h7 := occ1_le (H 7)
  omega
def setD (H : Nat → Hd) (i : Nat) (d : Hd) (j : Nat) : Hd := if j = i then d else H j
theorem occ_set (H : Nat → Hd) (i : Nat) (d : Hd) (hi : i < 8) : occ (setD H i d) + occ1 (H i) = occ H + occ1 d := by
  rcases (by omega : i = 0 ∨ i = 1 ∨ i = 2 ∨ i = 3 ∨ i = 4 ∨ i = 5 ∨ i = 6 ∨ i = 7) with rfl | rfl | rfl | rfl | rfl | rfl | rfl | rfl <;> simp [occ, setD] <;> omega
structure RelH (hs : List Rh) (H : Nat → Hd) : Prop where
  len : hs.length = occ H
  mem : ∀ (k : Nat) h, hs[k]? = some h → h.pos < 8 ∧ HRel h (H h.pos)
  all : ∀ i, i < 8 → (H i).c.st ≠ 0 → ∃ (k : Nat) (h : Rh), hs[k]? = some h ∧ h.pos = i
  inj : ∀ (k k' : Nat) h h', hs[k]? = some h → hs[k']? = some h' → h.pos = h'.pos → k = k'
  uq : ∀ i j, i < 8 → j < 8 → (H i).c.st ≠ 0 → (H j).c.st ≠ 0 → (H i).c.id = (H j).c.id → i = j
  z : ∀ i, i < 8 → (H i).c.st = 0 → (H i).ctr = 0
theorem RelH.le {hs : List Rh} {H : Nat → Hd} (r : RelH hs H) : hs.length ≤ 8 := by rw [r.len]; exact occ_le H
theorem RelH.at {hs : List Rh} {H : Nat → Hd} (r : RelH hs H) (i : Nat) (hi : i < 8) (h0 : (H i).c.st ≠ 0) : ∃ (k : Nat) (h : Rh), hs[k]? = some h ∧ h.pos = i ∧ HRel h (H i) := by
  obtain ⟨k, h, hk, hp⟩ := r.all i hi h0
  exact ⟨k, h, hk, hp, by rw [← hp]; exact (r.mem k h hk).2⟩
theorem RelH.tok {hs : List Rh} {H : Nat → Hd} (r : RelH hs H) : TOk H := fun i hi h0 => by
  obtain ⟨k, h, _, _, hr⟩ := r.at i hi h0
  exact hr.ok
theorem RelH.ctr {hs : List Rh} {H : Nat → Hd} (r : RelH hs H) : ∀ i, i < 8 → (H i).c.st ≠ 0 → (H i).ctr ≤ 1000000 := fun i hi h0 => by
  obtain ⟨k, h, _, _, hr⟩ := r.at i hi h0
  have h1 := hr.cr
  have h2 := hr.ok.res
  obtain ⟨⟨a1, a2⟩, _⟩ := hr.ok.cfg
  omega
theorem RelH.find {hs : List Rh} {H : Nat → Hd} (r : RelH hs H) {id x : Int} (hf : FindR hs id x) :
    (∃ (k : Nat) (h : Rh), x = k ∧ hs[k]? = some h ∧ h.pos < 8 ∧ HRel h (H h.pos) ∧ hit H id h.pos ∧ ∀ j, j < 8 → hit H id j → j = h.pos) ∨ (x = -1 ∧ ∀ j, j < 8 → ¬ hit H id j) := by
  rcases hf with ⟨k, h, hk, hid, _, rfl⟩ | ⟨hn, rfl⟩
  · obtain ⟨hp, hr⟩ := r.mem k h hk
    refine .inl ⟨k, h, rfl, hk, hp, hr, ⟨hr.st, by rw [← hr.id]; exact hid⟩, fun j hj hh => ?_⟩
    refine r.uq j h.pos hj hp hh.1 hr.st ?_
    have h1 := hh.2
    rw [← hid] at h1
    have h2 := hr.id
    omega
  · refine .inr ⟨rfl, fun j hj hh => ?_⟩
    obtain ⟨k, h, hk, _, hr⟩ := r.at j hj hh.1
    refine hn k h hk ?_
    rw [hr.id]; exact hh.2
theorem RelH.free {hs : List Rh} {H : Nat → Hd} (r : RelH hs H) {x : Int} (hf : FreeR hs x) :
    (∃ i : Nat, i < 8 ∧ x = i ∧ (H i).c.st = 0 ∧ ∀ j, j < i → (H j).c.st ≠ 0) ∨ (x = -1 ∧ ∀ j, j < 8 → (H j).c.st ≠ 0) := by
  have key : ∀ j, (∃ (k : Nat) (h : Rh), hs[k]? = some h ∧ h.pos = j) → (H j).c.st ≠ 0 := by
    rintro j ⟨k, h, hk, rfl⟩
    exact (r.mem k h hk).2.st
  rcases hf with ⟨i, hi, hn, hm, rfl⟩ | ⟨hm, rfl⟩
  · refine .inl ⟨i, hi, rfl, ?_, fun j hj => key j (hm j hj)⟩
    rcases Nat.eq_zero_or_pos (H i).c.st with h0 | h0
    · exact h0
    · obtain ⟨k, h, hk, hp⟩ := r.all i hi (by omega)
      exact absurd hp (hn k h hk)
  · exact .inr ⟨rfl, fun j hj => key j (hm j hj)⟩
theorem getE_lt {α : Type} {l : List α} {k : Nat} {x : α} (h : l[k]? = some x) : k < l.length := by
  rcases Nat.lt_or_ge k l.length with hlt | hge
  · exact hlt
  · rw [List.getElem?_eq_none hge] at h; cases h
theorem RelH.set {hs : List Rh} {H : Nat → Hd} (r : RelH hs H) (k : Nat) (h h' : Rh) (d : Hd) (hk : hs[k]? = some h) (hp : h'.pos = h.pos) (hr : HRel h' d) (hid : d.c.id = (H h.pos).c.id) : RelH (hs.set k h') (setD H h.pos d) := by
  obtain ⟨p8, r0⟩ := r.mem k h hk
  have e1 : occ1 d = 1 := by unfold occ1; rw [if_neg hr.st]
  have e2 : occ1 (H h.pos) = 1 := by unfold occ1; rw [if_neg r0.st]
  have gs : ∀ (j : Nat) (x : Rh), (hs.set k h')[j]? = some x → (j = k ∧ x = h') ∨ (j ≠ k ∧ hs[j]? = some x) := by
    intro j x hx
    rw [List.getElem?_set] at hx
    by_cases e : k = j
    · rw [if_pos e] at hx
      split at hx
      · simp only [Option.some.injEq] at hx; exact .inl ⟨e.symm, hx.symm⟩
      · cases hx
    · rw [if_neg e] at hx; exact .inr ⟨fun e2 => e e2.symm, hx⟩
  refine ⟨?_, ?_, ?_, ?_, ?_, ?_⟩
  · have := occ_set H h.pos d p8
    rw [List.length_set, r.len]; omega
  · intro j x hx
    rcases gs j x hx with ⟨rfl, rfl⟩ | ⟨hj, hx⟩
    · refine ⟨by omega, ?_⟩
      unfold setD
      rw [if_pos hp]; exact hr
    · obtain ⟨a, b⟩ := r.mem j x hx
      refine ⟨a, ?_⟩
      unfold setD
      rw [if_neg (fun e => hj (r.inj j k x h hx hk e))]; exact b
  · intro i hi h0
    by_cases e : i = h.pos
    · refine ⟨k, h', ?_, by omega⟩
      rw [List.getElem?_set, if_pos rfl, if_pos (getE_lt hk)]
    · unfold setD at h0
      rw [if_neg e] at h0
      obtain ⟨j, x, hx, hxp⟩ := r.all i hi h0
      refine ⟨j, x, ?_, hxp⟩
      rw [List.getElem?_set, if_neg]
      · exact hx
      · rintro rfl
        rw [hk] at hx
        simp only [Option.some.injEq] at hx
        subst hx
        exact e hxp.symm
  · intro j j' x x' hx hx' e
    rcases gs j x hx with ⟨rfl, rfl⟩ | ⟨hj, hy⟩ <;> rcases gs j' x' hx' with ⟨rfl, rfl⟩ | ⟨hj', hy'⟩
    · rfl
    · exact absurd (r.inj j' j x' h hy' hk (by omega)) hj'
    · exact absurd (r.inj j j' x h hy hk (by omega)) hj
    · exact r.inj j j' x x' hy hy' e
  · intro i j hi hj h1 h2 e
    unfold setD at h1 h2 e
    by_cases ei : i = h.pos <;> by_cases ej : j = h.pos
    · omega
    · rw [if_pos ei, if_neg ej, hid] at e
      rw [if_neg ej] at h2
      have := r.uq h.pos j p8 hj r0.st h2 e
      omega
    · rw [if_neg ei, if_pos ej, hid] at e
      rw [if_neg ei] at h1
      have := r.uq i h.pos hi p8 h1 r0.st e
      omega
    · rw [if_neg ei, if_neg ej] at e
      rw [if_neg ei] at h1
      rw [if_neg ej] at h2
      exact r.uq i j hi hj h1 h2 e
  · intro i hi h1
    unfold setD at h1 ⊢
    by_cases e : i = h.pos
    · rw [if_pos e] at h1; exact absurd h1 hr.st
    · rw [if_neg e] at h1 ⊢; exact r.z i hi h1
theorem RelH.add {hs : List Rh} {H : Nat → Hd} (r : RelH hs H) (h' : Rh) (d : Hd) (p8 : h'.pos < 8) (h0 : (H h'.pos).c.st = 0) (hr : HRel h' d) (hn : ∀ j, j < 8 → (H j).c.st ≠ 0 → (H j).c.id ≠ d.c.id) : RelH (hs ++ [h']) (setD H h'.pos d) := by
  have e1 : occ1 d = 1 := by unfold occ1; rw [if_neg hr.st]
  have e2 : occ1 (H h'.pos) = 0 := by unfold occ1; rw [if_pos h0]
  have gs : ∀ (j : Nat) (x : Rh), (hs ++ [h'])[j]? = some x → (j = hs.length ∧ x = h') ∨ hs[j]? = some x := by
    intro j x hx
    rcases Nat.lt_or_ge j hs.length with hlt | hge
    · rw [List.getElem?_append_left hlt] at hx; exact .inr hx
    · have hj := getE_lt hx
      simp only [List.length_append, List.length_cons, List.length_nil] at hj
      have : j = hs.length := by omega
      subst this
      rw [List.getElem?_append_right (Nat.le_refl _)] at hx
      simp only [Nat.sub_self, List.getElem?_cons_zero, Option.some.injEq] at hx
      exact .inl ⟨rfl, hx.symm⟩
  have np : ∀ (j : Nat) (x : Rh), hs[j]? = some x → x.pos ≠ h'.pos := by
    intro j x hx e
    have := (r.mem j x hx).2.st
    rw [e] at this
    exact this h0
  refine ⟨?_, ?_, ?_, ?_, ?_, ?_⟩
  · have := occ_set H h'.pos d p8
    rw [List.length_append, r.len, List.length_singleton]; omega
  · intro j x hx
    rcases gs j x hx with ⟨rfl, rfl⟩ | hx
    · refine ⟨p8, ?_⟩
      unfold setD
      rw [if_pos rfl]; exact hr
    · obtain ⟨a, b⟩ := r.mem j x hx
      refine ⟨a, ?_⟩
      unfold setD
      rw [if_neg (np j x hx)]; exact b
  · intro i hi h1
    by_cases e : i = h'.pos
    · exact ⟨hs.length, h', by rw [List.getElem?_append_right (Nat.le_refl _)]; simp, e.symm⟩
    · unfold setD at h1
      rw [if_neg e] at h1
      obtain ⟨j, x, hx, hxp⟩ := r.all i hi h1
      exact ⟨j, x, by rw [List.getElem?_append_left (getE_lt hx)]; exact hx, hxp⟩
  · intro j j' x x' hx hx' e
    rcases gs j x hx with ⟨rfl, rfl⟩ | hy <;> rcases gs j' x' hx' with ⟨rfl, rfl⟩ | hy'
    · rfl
    · exact absurd e.symm (np j' x' hy')
    · exact absurd e (np j x hy)
    · exact r.inj j j' x x' hy hy' e
  · intro i j hi hj h1 h2 e
    unfold setD at h1 h2 e
    by_cases ei : i = h'.pos <;> by_cases ej : j = h'.pos
    · omega
    · rw [if_pos ei, if_neg ej] at e
      rw [if_neg ej] at h2
      exact absurd e.symm (hn j hj h2)
    · rw [if_neg ei, if_pos ej] at e
      rw [if_neg ei] at h1
      exact absurd e (hn i hi h1)
    · rw [if_neg ei, if_neg ej] at e
      rw [if_neg ei] at h1
      rw [if_neg ej] at h2
      exact r.uq i j hi hj h1 h2 e
  · intro i hi h1
    unfold setD at h1 ⊢
    by_cases e : i = h'.pos
    · rw [if_pos e] at h1; exact absurd h1 hr.st
    · rw [if_neg e] at h1 ⊢; exact r.z i hi h1
theorem HRel.retire {h : Rh} {d : Hd} (r : HRel h d) : HRel { h with ret := true } ⟨d.c.retiring, d.ctr⟩ :=
  ⟨r.alg, r.id, r.fix, r.seals, r.ahead, r.most, r.res, rfl, fun e => absurd (show (2 : Nat) = 1 from e) (by omega), r.ctr, r.kz, r.ok.retire, r.cr⟩
theorem HRel.reserve {h : Rh} {d : Hd} (r : HRel h d) : HRel { h with res := min (h.res + h.ahead) h.seals } ⟨d.c.reserving, d.ctr⟩ := by
  have h1 := r.cr
  have h2 := r.ok.res
  refine ⟨r.alg, r.id, r.fix, r.seals, r.ahead, r.most, ?_, r.ret, r.key, r.ctr, r.kz, r.ok.reserve, ?_⟩
  · show min (h.res + h.ahead) h.seals = min (d.c.res + d.c.ahead) d.c.seals
    rw [r.res, r.ahead, r.seals]
  · show d.ctr ≤ min (d.c.res + d.c.ahead) d.c.seals
    omega
theorem HRel.bump {h : Rh} {d : Hd} (r : HRel h d) (hl : d.ctr < d.c.res) : HRel { h with ctr := h.ctr + 1 } ⟨d.c, d.ctr + 1⟩ :=
  ⟨r.alg, r.id, r.fix, r.seals, r.ahead, r.most, r.res, r.ret, r.key, by show h.ctr + 1 = d.ctr + 1; rw [r.ctr], r.kz, r.ok, hl⟩
theorem upd_set (H : Nat → Hd) (i : Nat) (c : Cl) : upd H i c = setD H i ⟨c, (H i).ctr⟩ := rfl
theorem bump_set (H : Nat → Hd) (i : Nat) : bump H i = setD H i ⟨(H i).c, (H i).ctr + 1⟩ := rfl
theorem bump_upd (H : Nat → Hd) (i : Nat) (c : Cl) : Go.Proofs.YtgalgjmhdbncbabGreat.bump (upd H i c) i = setD H i ⟨c, (H i).ctr + 1⟩ := by
  funext j
  unfold Go.Proofs.YtgalgjmhdbncbabGreat.bump upd setD
  by_cases e : j = i
  · rw [if_pos e, if_pos e, if_pos rfl]
  · rw [if_neg e, if_neg e, if_neg e]
theorem RelH.may {hs : List Rh} {H : Nat → Hd} (r : RelH hs H) {id x : Int} {i : Nat} {c : Int} (hf : FindR hs id x) (hl : liveP H id i c) :
    (c = 0 ∧ ∃ (k : Nat) (h : Rh), x = k ∧ hs[k]? = some h ∧ h.pos = i ∧ i < 8 ∧ HRel h (H i) ∧ h.ret = false ∧ (H i).c.st = 1) ∨ (c = 14 ∧ ∃ (k : Nat) (h : Rh), x = k ∧ hs[k]? = some h ∧ h.ret = true) ∨ (c = 11 ∧ x = -1) := by
  rcases r.find hf with ⟨k, h, hx, hk, p8, hr, hh, hu⟩ | ⟨hx, hn⟩
  · rcases hl with ⟨i8, hi, hne, _, rfl⟩ | ⟨_, ⟨q, q8, hq, _, h2⟩, rfl⟩ | ⟨_, hn, _⟩
    · have e := hu i i8 hi
      rw [e]
      have hst := hr.ok.st
      rw [e] at hne
      exact .inl ⟨rfl, k, h, hx, hk, rfl, p8, hr, by rw [hr.ret]; simp; omega, by omega⟩
    · have e := hu q q8 hq
      rw [e] at h2
      exact .inr (.inl ⟨rfl, k, h, hx, hk, by rw [hr.ret]; simp; omega⟩)
    · exact absurd hh (hn _ p8)
  · rcases hl with ⟨i8, hi, _⟩ | ⟨_, ⟨q, q8, hq, _⟩, _⟩ | ⟨_, _, rfl⟩
    · exact absurd hi (hn _ i8)
    · exact absurd hq (hn _ q8)
    · exact .inr (.inr ⟨rfl, hx⟩)

def t14 (h : Rh) : Nat → UInt8
  | 0 => 107
  | 1 => UInt8.ofNat h.alg
  | 2 => UInt8.ofNat (h.id / 256)
  | 3 => UInt8.ofNat h.id
  | 4 => sf h.fix 0
  | 5 => sf h.fix 1
  | 6 => sf h.fix 2
  | 7 => sf h.fix 3
  | 8 => UInt8.ofNat (h.seals / 256)
  | 9 => UInt8.ofNat h.seals
  | 10 => UInt8.ofNat h.ahead
  | 11 => UInt8.ofNat h.most
  | 12 => UInt8.ofNat (h.res / 256)
  | _ => UInt8.ofNat h.res
theorem rhT0_size (h : Rh) (hf : h.fix.size = 4) : (rhT0 h).size = 14 := by
  unfold rhT0
  simp only [ByteArray.size_append, numT_size, hf]
  rfl
theorem c14 {P : Nat → Prop} (h0 : P 0) (h1 : P 1) (h2 : P 2) (h3 : P 3) (h4 : P 4) (h5 : P 5) (h6 : P 6) (h7 : P 7) (h8 : P 8) (h9 : P 9) (h10 : P 10) (h11 : P 11) (h12 : P 12) (h13 : P 13) : ∀ j, j < 14 → P j := by
  intro j hj
  rcases (by omega : j = 0 ∨ j = 1 ∨ j = 2 ∨ j = 3 ∨ j = 4 ∨ j = 5 ∨ j = 6 ∨ j = 7 ∨ j = 8 ∨ j = 9 ∨ j = 10 ∨ j = 11 ∨ j = 12 ∨ j = 13) with rfl | rfl | rfl | rfl | rfl | rfl | rfl | rfl | rfl | rfl | rfl | rfl | rfl | rfl <;> assumption
theorem rhT0_at (h : Rh) (hf : h.fix.size = 4) : ∀ j, j < 14 → sf (rhT0 h) j = t14 h j := by
  have hk : kT.size = 1 := rfl
  have hk0 : sf kT 0 = 107 := rfl
  have hN : ∀ v n j, j < n → sf (numT v n) j = numF v n j := fun v n j hj => sf_str n _ j hj
  unfold rhT0
  refine c14 ?_ ?_ ?_ ?_ ?_ ?_ ?_ ?_ ?_ ?_ ?_ ?_ ?_ ?_ <;> simp [sf_append, ByteArray.size_append, numT_size, hf, hk, hk0, hN, numF, t14]
theorem rF_at (h : Rh) (d : Hd) (r : HRel h d) : ∀ j, j < 14 → rF d.c 6 j = t14 h j := by
  have hk : kT.size = 1 := rfl
  have hk0 : sf kT 0 = 107 := rfl
  have hf := r.ok.fix
  refine c14 ?_ ?_ ?_ ?_ ?_ ?_ ?_ ?_ ?_ ?_ ?_ ?_ ?_ ?_ <;> simp [rF, putF, cpF, fA, fZ, cv, numF, t14, hk, hk0, hf, r.alg, r.id, r.fix, r.seals, r.ahead, r.most, r.res]
theorem rhT_cell (h : Rh) (d : Hd) (r : HRel h d) : rhT h = cellT d.c := by
  have hf : h.fix.size = 4 := by rw [r.fix]; exact r.ok.fix
  have z0 := rhT0_size h hf
  have hN : ∀ v j, j < 1 → sf (numT v 1) j = numF v 1 j := fun v j hj => sf_str 1 _ j hj
  have hky := r.ok.key
  have e15 : rhT0 h ++ numT d.c.st 1 = str 15 fun j => if j = 14 then UInt8.ofNat d.c.st else rF d.c 6 j := by
    apply bytes_ext
    · rw [ByteArray.size_append, z0, numT_size, str_size]
    · intro j hj
      rw [ByteArray.size_append, z0, numT_size] at hj
      rw [sf_append, sf_str _ _ _ (by omega), z0]
      by_cases e : j = 14
      · subst e
        rw [if_neg (by omega), if_pos rfl, hN _ _ (by omega)]
        simp [numF]
      · rw [if_pos (by omega), if_neg e, rF_at h d r j (by omega), rhT0_at h hf j (by omega)]
  unfold rhT cellT
  rcases r.ok.st with h1 | h2
  · rw [if_neg (by rw [r.ret]; simp; omega), ← e15, h1, r.key h1]
  · have hk0 : d.c.key = ⟨#[]⟩ := (empty_iff _).1 (by rw [hky, if_neg (by omega)])
    rw [if_pos (by rw [r.ret]; simp; omega), ← e15, h2, hk0]
    apply bytes_ext
    · simp only [ByteArray.size_append]; rfl
    · intro j hj
      rw [sf_append (rhT0 h ++ numT 2 1), if_pos hj]
end Go.Proofs.YtgalgjmhdbncbabGreat
namespace Go.Proofs.YtgalgjmhdbncbabGreat
open Go.RowKit
attribute [local go_sem ↓] Go.wp_at_zero Go.wp_at_succ

theorem rhL_splice (hs : List Rh) : ∀ (k : Nat) (x : Rh), k < hs.length → (rhL hs).take (k * 11) ++ (rhA x).toList ++ (rhL hs).drop (k * 11 + 11) = rhL (hs.set k x) := by
  induction hs with
  | nil => intro k x h; simp at h
  | cons a l ih =>
    intro k x hk
    cases k with
    | zero => rfl
    | succ k =>
      have e : (k + 1) * 11 = k * 11 + 11 := by omega
      rw [e, List.set_cons_succ, show rhL (a :: l.set k x) = (rhA a).toList ++ rhL (l.set k x) from rfl, ← ih k x (by simpa using hk)]
      rfl
theorem Fr.setRow {L : List Nat} {w w' : World} (h : Fr L w w') {g : Nat} (hg : w.heap.size ≤ g ∨ g ∈ L) (cs : Array Value) : Fr L w (w'.setRow g cs) := by
  refine ⟨h.os, h.tape, h.output, by rw [size_setRow]; exact h.size, fun k hk hn => ?_⟩
  rw [setRow_other]
  · exact h.block k hk hn
  · rcases hg with hg | hg
    · omega
    · rintro rfl; exact hn hg
theorem ne_rows {w : World} {a b : Nat} {c c' : Array Value} {t t' : TypeId} {z z' : Nat × Nat} (h : w.heap[a]? = some (.cells c t z)) (h' : w.heap[b]? = some (.cells c' t' z')) (ht : t ≠ t') : a ≠ b := by
  rintro rfl
  rw [h] at h'
  simp only [Option.some.injEq, Obj.cells.injEq] at h'
  exact ht h'.2.1
theorem owns_row {w : World} {B e size n : Nat} {v : Value} {xs : List Value} (h : w.ownsRow B e size v n xs) {b : Nat} (hb : v.ownBlock = some b) : ∃ cur, w.heap[b]? = some (.cells cur e (0, 0)) := by
  rcases h.2 with ⟨rfl, _⟩ | ⟨g, cap, cur, rfl, _, hr, _⟩
  · simp [Value.ownBlock] at hb
  · simp only [Value.ownBlock, Option.some.injEq] at hb
    subst hb
    exact ⟨cur, hr⟩
theorem info173 : (Tryz.prog.info? 113).map (·.size) = some 11 := by kernel_rfl
theorem rhA_one (x : Rh) : ∀ v ∈ (rhA x).toList, v.oneCell' = true := by
  intro v hv
  simp only [rhA, List.mem_cons, List.not_mem_nil, or_false] at hv
  rcases hv with rfl | rfl | rfl | rfl | rfl | rfl | rfl | rfl | rfl | rfl | rfl <;> rfl
theorem st_el {w : World} {B gh cap : Nat} {hs : List Rh} (h : w.ownsRow B 113 11 (.slice (some ⟨gh, 0, none⟩) hs.length cap) hs.length (rhL hs)) (k : Nat) (hk : k < hs.length) (x : Rh) :
    ∃ cur', Sem.run Tryz.prog (Instr.storeAt 113 (.pointer (some ⟨gh, k * 11, none⟩)) (.agg (rhA x))) w = .ok () (w.setRow gh cur') ∧ (w.setRow gh cur').ownsRow B 113 11 (.slice (some ⟨gh, 0, none⟩) hs.length cap) (hs.set k x).length (rhL (hs.set k x)) := by
  rcases h.2 with ⟨hn, _⟩ | ⟨g', cap', cur, e1, hb, hr, h1, h2, h3, h4⟩
  · cases hn
  · simp only [Value.slice.injEq, Option.some.injEq, Addr.mk.injEq, and_true, true_and] at e1
    obtain ⟨rfl, rfl⟩ := e1
    have hz : (rhA x).toList.length = 11 := rfl
    have hrun := run_storeCells_at (P := Tryz.prog) gh (k * 11) 113 (rhA x).toList 0 cur w hr (by rw [hz, h3]; omega) (rhA_one x)
    rw [Nat.add_zero, hz] at hrun
    refine ⟨(cur.toList.take (k * 11) ++ (rhA x).toList ++ cur.toList.drop (k * 11 + 11)).toArray, ?_, ?_⟩
    · obtain ⟨i, hi, hs'⟩ : ∃ i, Tryz.prog.info? 113 = some i ∧ i.size = 11 := by
        have h := info173
        rw [Option.map_eq_some_iff] at h
        exact h
      have hc : (Value.agg (rhA x)).cells = rhA x := rfl
      have hcs : (rhA x).size = 11 := rfl
      have hv : (storeVar 113 ⟨gh, k * 11, none⟩ (.agg (rhA x))).run Tryz.prog w = .ok () (w.setRow gh (cur.toList.take (k * 11) ++ (rhA x).toList ++ cur.toList.drop (k * 11 + 11)).toArray) := by
        rw [← hrun]
        simp [storeVar, sizeOf, typeInfo, hi, hc, hcs, hs']
      simp only [Instr.storeAt, Instr.sureAddr, Sem.run_bind, Sem.run_pure, Result.andThen_ok]
      exact hv
    · refine ⟨by rw [rhL_len], .inr ⟨gh, cap, _, by rw [List.length_set], hb, setRow_heap w gh cur _ 113 _ hr, by rw [List.length_set]; exact h1, h2, ?_, ?_⟩⟩
      · rw [List.size_toArray, List.length_append, List.length_append, List.length_take, List.length_drop, hz, Array.length_toList, h3]
        omega
      · rw [List.length_set, ← rhL_splice hs k x hk]
        have hl := rhL_len hs
        have ec : cur.toList = rhL hs ++ cur.toList.drop (hs.length * 11) := by rw [← h4, List.take_append_drop]
        generalize cur.toList.drop (hs.length * 11) = rest at ec
        have a1 : (rhL hs ++ rest).take (k * 11) = (rhL hs).take (k * 11) := List.take_append_of_le_length (by omega)
        have a2 : (rhL hs ++ rest).drop (k * 11 + 11) = (rhL hs).drop (k * 11 + 11) ++ rest := List.drop_append_of_le_length (by omega)
        rw [ec, a1, a2, ← List.append_assoc]
        exact List.take_left' (by simp only [List.length_append, List.length_take, List.length_drop, hz]; omega)
theorem add_el (g o j : Nat) : (⟨g, o, none⟩ : Addr).add j = ⟨g, o + j, none⟩ := by unfold Addr.add; split <;> simp_all
theorem ld_el {w : World} {gh o : Nat} {h : Rh} (ha : RhAt w gh o h) : Sem.run Tryz.prog (Instr.loadAt 113 (.pointer (some ⟨gh, o, none⟩))) w = .ok (.agg (rhA h)) w := by
  have hh : ∀ j v, (rhA h).toList[j]? = some v → w.cell? ((⟨gh, o, none⟩ : Addr).add j) = some v := by
    intro j v hj
    rw [add_el]
    have hj' := getE_lt hj
    have hz : (rhA h).toList.length = 11 := rfl
    rcases (by omega : j = 0 ∨ j = 1 ∨ j = 2 ∨ j = 3 ∨ j = 4 ∨ j = 5 ∨ j = 6 ∨ j = 7 ∨ j = 8 ∨ j = 9 ∨ j = 10) with rfl | rfl | rfl | rfl | rfl | rfl | rfl | rfl | rfl | rfl | rfl
    · exact ha.c0.trans hj
    · exact ha.c1.trans hj
    · exact ha.c2.trans hj
    · exact ha.c3.trans hj
    · exact ha.c4.trans hj
    · exact ha.c5.trans hj
    · exact ha.c6.trans hj
    · exact ha.c7.trans hj
    · exact ha.c8.trans hj
    · exact ha.c9.trans hj
    · exact ha.c10.trans hj
  have hl : (loadCells ⟨gh, o, none⟩ 11).run Tryz.prog w = .ok (rhA h) w := run_loadCells_list (P := Tryz.prog) w ⟨gh, o, none⟩ (rhA h).toList hh
  obtain ⟨i, hi, hs⟩ : ∃ i, Tryz.prog.info? 113 = some i ∧ i.size = 11 := by
    have h := info173
    rw [Option.map_eq_some_iff] at h
    exact h
  have hagg : (isAgg 113).run Tryz.prog w = .ok true w := by
    unfold isAgg
    rw [Sem.run_bind, run_underlying Tryz.underlying113 w]
    rfl
  simp [Instr.loadAt, Instr.sureAddr, loadVar, Sem.run_bind, hagg, sizeOf, typeInfo, hi, hs, hl]
end Go.Proofs.YtgalgjmhdbncbabGreat
