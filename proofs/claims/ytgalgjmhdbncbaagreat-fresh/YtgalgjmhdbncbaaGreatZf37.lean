import Derived.Test.YtgalgjmhdbncbaaGreatZf36
import Derived.Test.YtgalgjmhdbncbaaGreatZf00
import Derived.Deep.OwnRows
namespace Go.Proofs.YtgalgjmhdbncbaaGreat
open Go.RowKit
attribute [local go_sem ↓] Go.wp_at_zero Go.wp_at_succ

theorem dk_cells {D D' : Nat → Cl} {K : Nat → Ky} {G : List Gv} {top : Nat → Nat} (h : Dk D K G top) (e : ∀ j, j < 8 → D' j = D j) : Dk D' K G top := by
  refine ⟨fun i j hi hj h1 h2 h3 => ?_, fun j hj h1 => ?_, fun id hid h1 => ?_, h.gt, h.ny, fun g hg => ?_⟩
  · rw [e i hi] at h1 h3
    rw [e j hj] at h2 h3
    exact h.uq i j hi hj h1 h2 h3
  · rw [e j hj] at h1 ⊢
    exact h.ok j hj h1
  · obtain ⟨j, hj, a, b⟩ := h.th id hid h1
    exact ⟨j, hj, by rw [e j hj]; exact a, by rw [e j hj]; exact b⟩
  · obtain ⟨c, n, a⟩ := h.gv g hg
    exact ⟨c, n, a.id, a.there, a.ok, a.st, a.ci, a.fix, a.lt, a.z, a.tx, fun j hj h1 h2 => by rw [e j hj] at h1 h2 ⊢; exact a.key j hj h1 h2⟩
def cpS (S : Sto) (k : Nat) : Sto := ⟨fun j => if j < k then S.cell j else ⟨#[]⟩, 0, false, none⟩
theorem cpS_next (S : Sto) (k : Nat) (hk : k < 8) (hz : (S.cell k).size ≤ 64) : wroteM (cpS S k) k (S.cell k) = cpS S (k + 1) ∧ writeM (cpS S k) k (S.cell k) = 0 := by
  have hin : inCell (k : Int) = true := by simp [inCell]; omega
  constructor
  · unfold wroteM
    rw [if_neg (by rw [hin]; decide), if_neg (by omega)]
    unfold cpS
    dsimp only
    rw [if_neg (by omega)]
    congr 1
    funext j
    rw [Int.toNat_natCast]
    by_cases e : j = k
    · subst e; rw [if_pos rfl, if_pos (by omega)]
    · rw [if_neg e]
      by_cases h : j < k
      · rw [if_pos h, if_pos (by omega)]
      · rw [if_neg h, if_neg (by omega)]
  · unfold writeM
    rw [if_neg (by rw [hin]; decide), if_neg (by omega)]
    rfl
set_option maxRecDepth 100000 in
set_option maxHeartbeats 4000000 in
theorem copied_any (w : World) (B g sx t : Nat) (S : Sto) (K : Nat → Ky) (G : List Gv) (ov : Bool) (sg : Value) (top : Nat → Nat) (hB : B ≤ w.heap.size) (h : Rn0 w B g sx t S K G ov sg top) :
    Calls Tryz.prog 10 #[ptr g] w fun e w' => e = .returned (.bool true) ∧ (∃ sx' S', Rn0 w' B g sx' t S' K G ov sg top ∧ S'.left = 0) ∧ Below B w w' := by
  have h1 := newStore_any
  have h2 := fun i w hs => cell_any sx S i w hs
  have h3' := fun (gx : Nat) (k : Nat) (w : World) hs => write_any gx (cpS S k) k (S.cell k) (by show (0 : Nat) ≤ _; omega) w hs
  unfold ptr at h1 h2 h3' ⊢
  have H1 : Hid _ := h1
  have H2 : Hid _ := h2
  have H3 : Hid _ := h3'
  have HX : Hid _ := h
  have lg := Row.lt h.r
  have ls := Row.lt h.s
  have nn : g ≠ sx := ne_rowsF h.r h.s (by decide)
  have hcz := h.cs
  have HCZ : Hid _ := hcz
  clear h1 h2 h3' h hcz
  go_enter Tryz.func10, Tryz.ntmps10
  go_wp2_with fail
  refine (H1.out _).mono ?_
  rintro e w1 ⟨rfl, p1, b1⟩
  have HP : Hid (StoP w1 w.heap.size (cpS S 0)) := p1
  have HF : Hid (Fr [] w w1) := Fr.of_below [] b1 (Nat.le_refl _)
  clear p1 b1
  go_wp2
  obtain ⟨gx, hgx⟩ : ∃ gx, w.heap.size = gx := ⟨_, rfl⟩
  rw [hgx] at HP ⊢
  have HGX : Hid _ := hgx
  clear hgx
  go_loopw [4, 5, 6, 7] (fun i _ _ _ wr => ∃ k : Nat, k ≤ 8 ∧ i = .int .i64 k ∧ StoP wr gx (cpS S k) ∧ Fr [] w wr) (fun i _ _ _ _ => 8 - (intOf i).toNat)
  case atStart => exact ⟨0, by omega, rfl, HP.out, HF.out⟩
  case round =>
    obtain ⟨k, hk, rfl, hS, hF⟩ := hrel
    have HS : Hid _ := hS
    have HFr : Hid _ := hF
    have R := HX.out.fr0 hF
    have c0 := R.r.at0
    have c0f := Row.frozen R.r 0
    have HR : Hid _ := R
    clear hS hF R
    by_cases hk8 : k < 8
    · have hc2 := H2.out (k : Int) _ HR.out.s
      have hcm : cellM S k = (S.cell k, 0) := by
        unfold cellM
        rw [if_pos (by simp [inCell]; omega), Int.toNat_natCast]
      rw [hcm] at hc2
      have hc3 := H3.out gx k _ HS.out
      rw [(cpS_next S k hk8 (HCZ.out k hk8).2).1, (cpS_next S k hk8 (HCZ.out k hk8).2).2] at hc3
      have HC2 : Hid _ := hc2
      have HC3 : Hid _ := hc3
      clear hc2 hc3 hcm
      go_wp2_with fail
      refine Calls.mono HC2.out ?_
      rintro e w2 ⟨rfl, hw2⟩
      rw [hw2]
      clear hw2 w2
      go_wp2_with fail
      refine Calls.mono HC3.out ?_
      rintro e w3 ⟨rfl, p3, c3⟩
      have F3 : Fr [] w w3 := by
        have hge := HGX.out
        have hc : Fr [gx] wr w3 := Fr.of_chg c3 (by simp)
        exact ⟨hc.os.trans HFr.out.os, hc.tape.trans HFr.out.tape, hc.output.trans HFr.out.output, Nat.le_trans HFr.out.size hc.size, fun b hb hn => by rw [hc.block b (Nat.lt_of_lt_of_le hb HFr.out.size) (by simp; omega)]; exact HFr.out.block b hb hn⟩
      have HQ : Hid _ := And.intro p3 F3
      clear p3 F3 c3 c0 c0f
      go_wp2
      exact ⟨⟨k + 1, by omega, by go_num, HQ.out.1, HQ.out.2⟩, by simp [intOf]; omega⟩
    · have : k = 8 := by omega
      subst this
      go_wp2
      go_ret
      have hge := HGX.out
      have R := HR.out
      have FF : Fr [g] wr (wr.setCell ⟨g, 0, none⟩ (.pointer (some ⟨gx, 0, none⟩))) := Fr.setCell (Fr.refl _ _) (.inr (by simp)) _
      have hcell : ∀ j, j < 8 → (cpS S 8).cell j = S.cell j := fun j hj => if_pos hj
      have hbo : ∀ b, sg.ownBlock = some b → b ≠ g := by
        intro b hb
        rcases R.o.2 with ⟨rfl, _⟩ | ⟨q, cap, cur, rfl, _, hr, _⟩
        · simp [Value.ownBlock] at hb
        · simp only [Value.ownBlock, Option.some.injEq] at hb
          subst hb
          exact ne_rowsF hr R.r (by decide)
      refine ⟨rfl, ⟨gx, cpS S 8, ⟨R.r.set0 gx, Row.fr HS.out FF (by simp; omega), ownsFr R.o FF (fun b hb => by simpa using hbo b hb), fun j hj => by rw [hcell j hj]; exact HCZ.out j hj, ?_, by show (0 : Nat) ≤ _; omega, R.bg, by omega⟩, rfl⟩, (HFr.out.low hB (by simp)).trans (FF.low (Nat.le_trans hB HFr.out.size) (by simp; exact R.bg))⟩
      exact dk_cells R.dk (fun j hj => by rw [hcell j hj])
end Go.Proofs.YtgalgjmhdbncbaaGreat
namespace Go.Proofs.YtgalgjmhdbncbaaGreat
open Go.RowKit
attribute [local go_sem ↓] Go.wp_at_zero Go.wp_at_succ

def IsSealed (x : Gv) (n : ByteArray) : Prop := ∃ A I b t, x.txt = encT A I n b t ∧ IsRec A I n b t
theorem sealed_of {x : Gv} {c : Cl} {m : Nat} (hc : ClOk c) (hz : x.plain.size ≤ 20) (e : x.txt = sealR ⟨c, m⟩ wT x.plain) : IsSealed x (hnonT ⟨c, m⟩) := ⟨_, _, _, _, e, seal_isrec c m wT x.plain hc (by omega)⟩
set_option maxRecDepth 100000 in
set_option maxHeartbeats 4000000 in
theorem issued_any (w : World) (B g sx t id : Nat) (K : Nat → Ky) (G : List Gv) (ov : Bool) (sg : Value) (nonce : ByteArray) (hr : RgR w g sx t K sg ov) (ho : w.ownsRow B 72 3 sg G.length (gvL G)) (hln : G.length ≤ 3000000000000) (hG : ∀ x ∈ G, ∃ n, IsSealed x n ∧ (x.id = id → n ≠ nonce)) :
    Calls Tryz.prog 49 #[ptr g, .int .i64 id, .string nonce] w fun e w' => e = .returned (.bool false) ∧ Fr [] w w' := by
  obtain ⟨p, cap, hsg⟩ : ∃ p cap, sg = .slice p G.length cap := by
    rcases ho.2 with ⟨h, h0⟩ | ⟨q, cap, cur, h, _⟩
    · exact ⟨none, 0, by rw [h, h0]⟩
    · exact ⟨_, cap, h⟩
  have HR : Hid _ := And.intro hr ho
  have HG : Hid _ := hG
  have HL : Hid _ := hln
  clear hr ho hG hln
  unfold ptr
  go_enter Tryz.func49, Tryz.ntmps49
  go_wp2
  go_loopw [7, 8, 9, 10] (fun i _ _ _ wr => ∃ k : Nat, k ≤ G.length ∧ i = .int .i64 k ∧ Fr [] w wr) (fun i _ _ _ _ => G.length - (intOf i).toNat)
  case atStart => exact ⟨0, by omega, rfl, Fr.refl _ _⟩
  case round =>
    obtain ⟨k, hk, rfl, hF⟩ := hrel
    have R := HR.out.1.fr hF (by simp)
    have O := ownsFr HR.out.2 hF (by simp)
    have c18 := R.at18
    rw [hsg] at c18
    have HF : Hid _ := hF
    by_cases hk8 : k < G.length
    · obtain ⟨x, hx⟩ : ∃ x, G[k]? = some x := ⟨G[k], List.getElem?_eq_getElem hk8⟩
      obtain ⟨n, ⟨A, I, b, tg, e, hrec⟩, hne⟩ := HG.out x (List.mem_of_getElem? hx)
      rw [hsg] at O
      obtain ⟨gg, rfl⟩ : ∃ gg, p = some ⟨gg, 0, none⟩ := by
        rcases O.2 with ⟨h, h0⟩ | ⟨q, cap', cur, h, _⟩
        · omega
        · simp only [Value.slice.injEq] at h
          exact ⟨q, h.1⟩
      obtain ⟨g0, g1, g2⟩ := gvL_at G k x hx
      have d0 := (World.ownsRow.cellAt O (k * 3) (by omega)).trans g0
      have d1 := (World.ownsRow.cellAt O (k * 3 + 1) (by omega)).trans g1
      rw [e] at d1
      obtain ⟨E, hE⟩ : ∃ E, encT A I n b tg = E := ⟨_, rfl⟩
      have hp := fun W => parse_enc A I n b tg hrec W
      rw [hE] at d1 hp
      unfold recV at hp
      have HP : Hid _ := hp
      have hln := HL.out
      have HD : Hid _ := And.intro R O
      have HX : Hid _ := And.intro hne (And.intro g0 g1)
      clear hp g0 g1 g2 hrec hE e hx hF R O hne
      go_wp2_with fail
      refine (HP.out _).mono ?_
      rintro e w1 ⟨rfl, b1⟩
      have f1 : Fr [] wr w1 := Fr.of_below [] b1 (Nat.le_refl _)
      have F1 := f1.alloc (.cells #[.int .i64 A, .int .i64 I, .string n, .string b, .string tg] 52)
      have R1 := HD.out.1.fr F1 (by simp)
      have O1 := ownsFr HD.out.2 F1 (by simp)
      have c18' := R1.at18
      rw [hsg] at c18'
      have d0' := (World.ownsRow.cellAt O1 (k * 3) (by omega)).trans HX.out.2.1
      have F2 := HF.out.trans F1
      have HF2 : Hid _ := F2
      clear b1 f1 F1 R1 O1 F2 c18 d0 d1
      by_cases hid : x.id = id
      · have e1 : ((x.id : Int) == (id : Int)) = true := by rw [beq_iff_eq]; omega
        have e2 : (n.toList == nonce.toList) = false := by
          rw [Bool.eq_false_iff]
          intro e
          refine HX.out.1 hid ?_
          rw [beq_iff_eq, ByteArray.toList_eq, ByteArray.toList_eq] at e
          cases n; cases nonce
          congr 1
          exact Array.toList_inj.1 e
        clear hid
        go_wp2
        exact ⟨⟨k + 1, by omega, by go_num, HF2.out⟩, by simp [intOf]; omega⟩
      · have e1 : ((x.id : Int) == (id : Int)) = false := by rw [beq_eq_false_iff_ne]; omega
        clear hid
        go_wp2
        exact ⟨⟨k + 1, by omega, by go_num, HF2.out⟩, by simp [intOf]; omega⟩
    · have hln := HL.out
      go_wp2
      go_ret
      exact ⟨rfl, HF.out⟩
end Go.Proofs.YtgalgjmhdbncbaaGreat
