import Derived.Test.YtgalgjmhdbncbaaGreatZf38
namespace Go.Proofs.YtgalgjmhdbncbaaGreat
open Go.RowKit
attribute [local go_sem ↓] Go.wp_at_zero Go.wp_at_succ

def pickV (c : Int) (n : Nat) : Nat := ((if c < 0 then -(c + 1) else c) % (n : Int)).toNat
theorem pickV_lt (c : Int) (n : Nat) (hn : 0 < n) : pickV c n < n := by
  unfold pickV
  have h1 := Int.emod_nonneg (if c < 0 then -(c + 1) else c) (b := (n : Int)) (by omega)
  have h2 := Int.emod_lt_of_pos (if c < 0 then -(c + 1) else c) (b := (n : Int)) (by omega)
  omega
theorem pickV_eq (c : Int) (n : Nat) (hn : 0 < n) : (pickV c n : Int) = (if c < 0 then -(c + 1) else c) % (n : Int) := by
  unfold pickV
  have h1 := Int.emod_nonneg (if c < 0 then -(c + 1) else c) (b := (n : Int)) (by omega)
  omega
set_option maxHeartbeats 400000 in
theorem pickv_any (c : Int) (n : Nat) (h1 : -9223372036854775808 ≤ c) (h2 : c ≤ 9223372036854775807) (hn : 0 < n) (hn2 : n ≤ 3000000000000) (w : World) :
    Calls Tryz.prog 17 #[.int .i64 c, .int .i64 n] w fun e w' => e = .returned (.int .i64 (pickV c n)) ∧ w' = w := by
  have he := pickV_eq c n hn
  have hlt := pickV_lt c n hn
  by_cases hc : c < 0
  · rw [if_pos hc] at he
    have HE : Hid _ := he
    clear he
    have hr : -9223372036854775808 ≤ -(c + 1) % (n : Int) ∧ -(c + 1) % (n : Int) ≤ 9223372036854775807 := by rw [← HE.out]; omega
    go_enter Tryz.func17, Tryz.ntmps17
    go_wp2
    go_ret
    exact ⟨by rw [HE.out, ← Int.tmod_eq_emod_of_nonneg (by omega), Int.neg_tmod]; rfl, rfl⟩
  · rw [if_neg hc] at he
    have HE : Hid _ := he
    clear he
    have hr : -9223372036854775808 ≤ c % (n : Int) ∧ c % (n : Int) ≤ 9223372036854775807 := by rw [← HE.out]; omega
    go_enter Tryz.func17, Tryz.ntmps17
    go_wp2
    go_ret
    exact ⟨by rw [HE.out]; rfl, rfl⟩

theorem head_likeF (A I : Nat) (n b b' : ByteArray) (h : b.size = b'.size) : headT A I n b = headT A I n b' := by unfold headT e5F; rw [h]
theorem str_sf16 (t : ByteArray) (h : t.size = 16) : str 16 (sf t) = t := str_sf t 16 h
theorem open_seal {h : Hd} {c : Cl} {n : Nat} {m p s : ByteArray} {e : Int} (hc : ClOk c) (hp : p.size ≤ 200) (hk : c.key = h.c.key ∧ c.alg = h.c.alg) (ho : openR h (sealR ⟨c, n⟩ m p) m s e) : s = p ∧ e = 0 := by
  have R := seal_isrec c n m p hc hp
  have e1 : rA (sealR ⟨c, n⟩ m p) = c.alg := read_alg R
  have e2 : rI (sealR ⟨c, n⟩ m p) = c.id := read_id R
  have e3 : rN (sealR ⟨c, n⟩ m p) = hnonT ⟨c, n⟩ := read_nonce R
  have e4 : rB (sealR ⟨c, n⟩ m p) = maskT c.key (firstF c.key (hnonT ⟨c, n⟩)) p := by
    unfold rB sealR
    rw [read_len R]
    exact read_body
  have e5 : rT (sealR ⟨c, n⟩ m p) = str 16 (tagF c.key (firstF c.key (hnonT ⟨c, n⟩)) (headT c.alg c.id (hnonT ⟨c, n⟩) p ++ m) (maskT c.key (firstF c.key (hnonT ⟨c, n⟩)) p)) := by
    unfold rT sealR
    rw [read_len R]
    exact read_tag R
  have ht : tagOk h.c.key (sealR ⟨c, n⟩ m p) m := by
    unfold tagOk
    rw [e1, e2, e3, e4, e5, str_sf16 _ (str_size _ _), ← hk.1, head_likeF c.alg c.id (hnonT ⟨c, n⟩) (maskT c.key (firstF c.key (hnonT ⟨c, n⟩)) p) p (maskT_size _ _ _)]
  rcases ho with ⟨h1 | h1, _⟩ | ⟨_, h2, h3⟩
  · exact absurd (e1.trans hk.2) h1
  · exact absurd ht h1
  · rw [e3, e4, ← hk.1, maskT_mask] at h2
    exact ⟨h2, h3⟩
theorem seal_bad (c : Cl) (n : Nat) (m p : ByteArray) (hc : ClOk c) (hp : p.size ≤ 200) : badAt (sealR ⟨c, n⟩ m p) = none ∧ rI (sealR ⟨c, n⟩ m p) = c.id ∧ (sealR ⟨c, n⟩ m p).size = 36 + p.size := by
  have R := seal_isrec c n m p hc hp
  refine ⟨bad_enc R, read_id R, ?_⟩
  show (encT _ _ _ _ _).size = _
  rw [encT_size, maskT_size]
theorem cells3G {w : World} {g : Nat} {v0 v1 v2 : Value} {t : TypeId} (h : w.heap[g]? = some (.cells #[v0, v1, v2] t (0, 0))) : w.cell? ⟨g, 0, none⟩ = some v0 ∧ w.cell? ⟨g, 1, none⟩ = some v1 ∧ w.cell? ⟨g, 2, none⟩ = some v2 := by
  refine ⟨?_, ?_, ?_⟩
  · rw [cell_of_row _ _ 0 _ _ _ h]; rfl
  · rw [cell_of_row _ _ 1 _ _ _ h]; rfl
  · rw [cell_of_row _ _ 2 _ _ _ h]; rfl
theorem RI.opens {S : Sto} {t : Nat} {H : Nat → Hd} {K : Nat → Ky} {G : List Gv} {top : Nat → Nat} (h : RI S t H K G false top) {x : Gv} (hx : x ∈ G) {s : ByteArray} {e : Int} (ho : openP t S H x.txt wT s e) :
    ((K x.id).ret = 1 ∧ s = ⟨#[]⟩ ∧ e = 14) ∨ ((K x.id).ret ≠ 1 ∧ s = x.plain ∧ e = 0) := by
  have L := h.lv rfl
  obtain ⟨c, n, a⟩ := h.dk.gv x hx
  obtain ⟨b1, b2, b3⟩ := seal_bad c n wT x.plain a.ok (by have := a.z; omega)
  have hwt : wT.size = 4 := rfl
  obtain ⟨j, hj, q1, q2⟩ := h.dk.th x.id a.id a.there
  have ck := h.dk.ok j hj q1
  have eqj := L.eq j hj
  have uq : ∀ i, i < 8 → hit H (rI x.txt : Nat) i → i = j := by
    intro i hi hh
    have hn := hit_nat hh
    rw [a.tx, b2, a.ci] at hn
    refine h.dk.uq i j hi hj ?_ q1 ?_
    · have := hh.1
      rwa [L.eq i hi] at this
    · show (ofC _).id = (ofC _).id
      rw [q2]
      rw [L.eq i hi] at hn
      exact hn
  have hitj : hit H (rI x.txt : Nat) j := by
    refine ⟨by rw [eqj]; exact q1, ?_⟩
    rw [a.tx, b2, a.ci, eqj]
    exact congrArg _ q2
  rcases ho with ⟨hn, _⟩ | ⟨_, hq⟩
  · exact absurd L.tab hn
  · rcases hq with ⟨hn, _⟩ | ⟨_, ⟨p, hp⟩, _⟩ | ⟨_, _, i, cc, hl, hR⟩
    · omega
    · rw [a.tx, b1] at hp; cases hp
    · rcases hl with ⟨hi, hh, h2, _, rfl⟩ | ⟨_, ⟨k, hk, hh, _, h2⟩, rfl⟩ | ⟨_, hno, _⟩
      · have := uq i hi hh
        subst this
        have hst : (ofC (S.cell i)).st = 1 := by
          have := ck.ok.st
          rw [eqj] at h2
          have q1' : (ofC (S.cell i)).st ≠ 0 := q1
          have this' : (ofC (S.cell i)).st = 1 ∨ (ofC (S.cell i)).st = 2 := this
          omega
        rcases hR with ⟨hne, _⟩ | ⟨_, hR⟩
        · exact absurd rfl hne
        · have hk := a.key i hi hst q2
          rw [← eqj] at hk
          rw [a.tx] at hR
          obtain ⟨r1, r2⟩ := open_seal a.ok (by have := a.z; omega) hk hR
          refine .inr ⟨fun e1 => ?_, r1, r2⟩
          have := ck.r1 (by rw [q2]; exact e1)
          have this' : (ofC (S.cell i)).st = 2 := this
          omega
      · have := uq k hk hh
        subst this
        rcases hR with ⟨_, r1, r2⟩ | ⟨e1, _⟩
        · refine .inl ⟨?_, r1, r2⟩
          have yn := (L.yn x.id a.id).2
          rcases (by omega : (K x.id).ret = 0 ∨ (K x.id).ret = 1) with e0 | e0
          · have := ck.r0 (by rw [q2]; exact e0)
            rw [eqj] at h2
            have this' : (ofC (S.cell k)).st = 1 := this
            omega
          · exact e0
        · exact absurd e1 (by decide)
      · exact absurd hitj (hno j hj)
set_option maxRecDepth 100000 in
set_option maxHeartbeats 8000000 in
theorem opens_any (w : World) (B g sx t : Nat) (S : Sto) (H : Nat → Hd) (K : Nat → Ky) (G : List Gv) (sg : Value) (top : Nat → Nat) (c : Int) (h1 : -9223372036854775808 ≤ c) (h2 : c ≤ 9223372036854775807) (hln : G.length ≤ 3000000000000) (h : Rng w B g sx t S H K G false sg top) :
    Calls Tryz.prog 12 #[ptr g, .int .i64 c] w fun e w' => e = .returned (.bool true) ∧ Fr [] w w' := by
  obtain ⟨p, cap, hsg⟩ : ∃ p cap, sg = .slice p G.length cap := by
    rcases h.o.2 with ⟨h, h0⟩ | ⟨q, cap, cur, h, _⟩
    · exact ⟨none, 0, by rw [h, h0]⟩
    · exact ⟨_, cap, h⟩
  have HX : Hid _ := h
  unfold ptr
  by_cases hz : G.length = 0
  · have c18 := h.r.at18
    rw [hsg, hz] at c18
    clear h hln hsg hz
    go_enter Tryz.func12, Tryz.ntmps12
    go_wp2
    go_ret
    exact ⟨rfl, Fr.refl _ _⟩
  · have hpk := fun W => pickv_any c G.length h1 h2 (by omega) hln W
    have hlt := pickV_lt c G.length (by omega)
    obtain ⟨k, hk⟩ : ∃ k, pickV c G.length = k := ⟨_, rfl⟩
    rw [hk] at hpk hlt
    obtain ⟨x, hx⟩ : ∃ x, G[k]? = some x := ⟨G[k], List.getElem?_eq_getElem hlt⟩
    have hmem := List.mem_of_getElem? hx
    have hO := h.o
    rw [hsg] at hO
    obtain ⟨gg, rfl⟩ : ∃ gg, p = some ⟨gg, 0, none⟩ := by
      rcases hO.2 with ⟨_, h0⟩ | ⟨q, cap', cur, h, _⟩
      · omega
      · simp only [Value.slice.injEq] at h
        exact ⟨q, h.1⟩
    obtain ⟨g0, g1, g2⟩ := gvL_at G k x hx
    have hidx : x.id < 4 := by
      obtain ⟨_, _, a⟩ := h.i.dk.gv x hmem
      exact a.id
    have hopn := fun s e => h.i.opens hmem (s := s) (e := e)
    have htz : x.txt.size ≤ maxLen := by
      obtain ⟨c', n', a⟩ := h.i.dk.gv x hmem
      have := (seal_bad c' n' wT x.plain a.ok (by have := a.z; omega)).2.2
      rw [a.tx, this]
      have := a.z
      unfold maxLen
      omega
    have htop := fun W hf => topen_any t sx H S x.txt wT h.i.tk htz W (Row.fr h.tp hf (by simp)) (Row.fr h.s hf (by simp)) (h.fr0 hf).tabIn
    have hc18 : ∀ W, Fr [] w W → W.cell? ⟨g, 18, none⟩ = some (.slice (some ⟨gg, 0, none⟩) G.length cap) := fun W hf => by rw [← hsg]; exact (h.r.fr hf (by simp)).at18
    have hc1 : ∀ W, Fr [] w W → W.cell? ⟨g, 1, none⟩ = some (.pointer (some ⟨t, 0, none⟩)) := fun W hf => (h.r.fr hf (by simp)).at1
    have hky : ∀ W, Fr [] w W → W.cell? ⟨g, 2 + x.id * 4 + 1, none⟩ = some (.int .i64 (K x.id).ret) := fun W hf => ((h.r.fr hf (by simp)).key x.id hidx).2.1
    have hd0 : ∀ W, Fr [] w W → W.cell? ⟨gg, k * 3, none⟩ = some (.int .i64 x.id) := fun W hf => (World.ownsRow.cellAt (ownsFr hO hf (by simp)) (k * 3) (by omega)).trans g0
    have hd1 : ∀ W, Fr [] w W → W.cell? ⟨gg, k * 3 + 1, none⟩ = some (.string x.txt) := fun W hf => (World.ownsRow.cellAt (ownsFr hO hf (by simp)) (k * 3 + 1) (by omega)).trans g1
    have hd2 : ∀ W, Fr [] w W → W.cell? ⟨gg, k * 3 + 2, none⟩ = some (.string x.plain) := fun W hf => (World.ownsRow.cellAt (ownsFr hO hf (by simp)) (k * 3 + 2) (by omega)).trans g2
    obtain ⟨T, hT⟩ : ∃ T, x.txt = T := ⟨_, rfl⟩
    obtain ⟨s0, hs0⟩ : ∃ s, x.plain = s := ⟨_, rfl⟩
    obtain ⟨xi, hxi⟩ : ∃ i, x.id = i := ⟨_, rfl⟩
    rw [hT] at hopn htop hd1
    rw [hs0] at hopn hd2
    rw [hxi] at hopn hky hd0 hidx
    unfold ptr wT at htop
    unfold wT at hopn
    have c18 := hc18 w (Fr.refl _ _)
    have hgl : (G.length : Int) ≠ 0 := by omega
    have hki : (k : Int) < (G.length : Int) := by omega
    have HPK : Hid _ := hpk
    have HC : Hid _ := And.intro hc18 (And.intro hc1 (And.intro hky (And.intro hd0 (And.intro hd1 hd2))))
    have HTO : Hid _ := htop
    have HOP : Hid _ := hopn
    have hxI : (xi : Int) < 4 := by omega
    clear h hO hsg hpk hx hmem g0 g1 g2 hopn htop htz hc18 hc1 hky hd0 hd1 hd2 hT hs0 hxi hz hk HX
    go_enter Tryz.func12, Tryz.ntmps12
    go_wp2_with fail
    clear c18
    refine wp_region_held_drew (S := fun W' => Fr [] w W') (by kernel_rfl) (Fr.refl _ _).drew (fun hHeld => ?_)
    refine wpAnyH_take (i := 0) (v := ?v1) rfl (by kernel_rfl) (by kernel_rfl) (by kernel_rfl) (fun _ _ _ h => h) (Or.inl ⟨by rfl, ?y1⟩) (by assumption) ?r1
    case y1 => (intro W' hW; go_simp; try with_reducible rfl)
    try simp only [Act.put, List.getElem_toArray, List.getElem_cons_zero, List.setIfInBounds_toArray, List.set_cons_zero, List.set_cons_succ]
    refine wpAnyH_take (i := 1) (v := ?v2) rfl (by kernel_rfl) (by kernel_rfl) (by kernel_rfl) (fun _ _ _ h => h) (Or.inl ⟨by rfl, ?y2⟩) (by assumption) ?r2
    case y2 => (intro W' hW; go_simp; try with_reducible rfl)
    try simp only [Act.put, List.getElem_toArray, List.getElem_cons_zero, List.getElem_cons_succ, List.setIfInBounds_toArray, List.set_cons_zero, List.set_cons_succ]
    refine wpAnyH_take (i := 2) (v := ?v3) rfl (by kernel_rfl) (by kernel_rfl) (by kernel_rfl) (fun _ _ _ h => h) (Or.inl ⟨by rfl, ?y3⟩) (by assumption) ?r3
    case y3 => (intro W' hW; go_simp; try with_reducible rfl)
    try simp only [Act.put, List.getElem_toArray, List.getElem_cons_zero, List.getElem_cons_succ, List.setIfInBounds_toArray, List.set_cons_zero, List.set_cons_succ]
    refine wpAnyH_take (i := 3) (v := ?v4) rfl (by kernel_rfl) (by kernel_rfl) (by kernel_rfl) (fun _ _ _ h => h) (Or.inl ⟨by rfl, ?y4⟩) (by assumption) ?r4
    case y4 => (intro W' hW; have c18 := HC.out.1 _ hW; go_simp; try with_reducible rfl)
    try simp only [Act.put, List.getElem_toArray, List.getElem_cons_zero, List.getElem_cons_succ, List.setIfInBounds_toArray, List.set_cons_zero, List.set_cons_succ]
    refine wpAnyH_take (i := 4) (v := ?v5) rfl (by kernel_rfl) (by kernel_rfl) (by kernel_rfl) (fun _ _ _ h => h) (Or.inl ⟨by rfl, ?y5⟩) (by assumption) ?r5
    case y5 => (intro W' hW; go_simp; try with_reducible rfl)
    try simp only [Act.put, List.getElem_toArray, List.getElem_cons_zero, List.getElem_cons_succ, List.setIfInBounds_toArray, List.set_cons_zero, List.set_cons_succ]
    refine wpAnyH_take (i := 5) (v := ?v6) rfl (by kernel_rfl) (by kernel_rfl) (by kernel_rfl) (fun _ _ _ h => h) (Or.inl ⟨by rfl, ?y6⟩) (by assumption) ?r6
    case y6 => (intro W' hW; go_simp; try with_reducible rfl)
    try simp only [Act.put, List.getElem_toArray, List.getElem_cons_zero, List.getElem_cons_succ, List.setIfInBounds_toArray, List.set_cons_zero, List.set_cons_succ]
    refine wpAnyH_take (i := 6) (v := ?v7) rfl (by kernel_rfl) (by kernel_rfl) (by kernel_rfl) (fun _ _ _ h => h) (Or.inl ⟨by rfl, ?y7⟩) (by assumption) ?r7
    case y7 => (intro W' hW; go_simp; try with_reducible rfl)
    try simp only [Act.put, List.getElem_toArray, List.getElem_cons_zero, List.getElem_cons_succ, List.setIfInBounds_toArray, List.set_cons_zero, List.set_cons_succ]
    refine wpAnyH_take (i := 7) (v := ?v8) rfl (by kernel_rfl) (by kernel_rfl) (by kernel_rfl) (fun _ _ _ h => h) (Or.inl ⟨by rfl, ?y8⟩) (by assumption) ?r8
    case y8 => (intro W' hW; go_simp; try with_reducible rfl)
    try simp only [Act.put, List.getElem_toArray, List.getElem_cons_zero, List.getElem_cons_succ, List.setIfInBounds_toArray, List.set_cons_zero, List.set_cons_succ]
    refine wpAnyH_take (i := 8) (v := ?v9) rfl (by kernel_rfl) (by kernel_rfl) (by kernel_rfl) (fun _ _ _ h => h) (Or.inl ⟨by rfl, ?y9⟩) (by assumption) ?r9
    case y9 => (intro W' hW; have c18 := HC.out.1 _ hW; go_simp; try with_reducible rfl)
    try simp only [Act.put, List.getElem_toArray, List.getElem_cons_zero, List.getElem_cons_succ, List.setIfInBounds_toArray, List.set_cons_zero, List.set_cons_succ]
    refine wpAnyH_take (i := 9) (v := ?v10) rfl (by kernel_rfl) (by kernel_rfl) (by kernel_rfl) (fun _ _ _ h => h) (Or.inl ⟨by rfl, ?y10⟩) (by assumption) ?r10
    case y10 => (intro W' hW; go_simp; try with_reducible rfl)
    try simp only [Act.put, List.getElem_toArray, List.getElem_cons_zero, List.getElem_cons_succ, List.setIfInBounds_toArray, List.set_cons_zero, List.set_cons_succ]
    refine wpAnyH_ready (rs := [10, 13]) (by kernel_rfl) (by simp) ?_
    refine AllReadyH.cons rfl (fun KK hK => ?_) (AllReadyH.cons rfl (fun KK hK => ?_) AllReadyH.nil)
    · skip
      go_simp
      refine (HPK.out _).mono ?_
      rintro e w1 ⟨rfl, rfl⟩
      go_wp2_with fail
      refine hK.out _ _ hHeld (fun hHeld => ?_)
      clear hK KK
      refine wpAnyH_take (i := 11) (v := ?v11) rfl (by kernel_rfl) (by kernel_rfl) (by kernel_rfl) (fun _ _ _ h => h) (Or.inl ⟨by rfl, ?y11⟩) (by assumption) ?r11
      case y11 => (intro W' hW; go_simp; try with_reducible rfl)
      try simp only [Act.put, List.getElem_toArray, List.getElem_cons_zero, List.getElem_cons_succ, List.setIfInBounds_toArray, List.set_cons_zero, List.set_cons_succ]
      refine wpAnyH_take (i := 12) (v := ?v12) rfl (by kernel_rfl) (by kernel_rfl) (by kernel_rfl) (fun _ _ _ h => h) (Or.inl ⟨by rfl, ?y12⟩) (by assumption) ?r12
      case y12 => (intro W' hW; have d0 := HC.out.2.2.2.1 _ hW; have d1 := HC.out.2.2.2.2.1 _ hW; have d2 := HC.out.2.2.2.2.2 _ hW; go_simp; try with_reducible rfl)
      try simp only [Act.put, List.getElem_toArray, List.getElem_cons_zero, List.getElem_cons_succ, List.setIfInBounds_toArray, List.set_cons_zero, List.set_cons_succ]
      refine wpAnyH_ready (rs := [13]) (by kernel_rfl) (by simp) ?_
      refine AllReadyH.cons rfl (fun KK hK => ?_) AllReadyH.nil
      go_simp
      refine hK.out _ _ (Fr.alloc hHeld _) (fun hHeld => ?_)
      clear hK KK
      refine wpAnyH_ready (rs := [14]) (by kernel_rfl) (by simp) ?_
      refine AllReadyH.cons rfl (fun KK hK => ?_) AllReadyH.nil
      go_simp
      refine hK.out _ _ ((Fr.refl _ _).alloc _).drew (fun hHeld => ?_)
      clear hK KK
      refine wpAnyH_done (by kernel_rfl) ?_ _
      have HS3 : Hid (Fr [] w (w.alloc (.cells #[.int .i64 xi, .string T, .string s0] 72)).drew ∧ (w.alloc (.cells #[.int .i64 xi, .string T, .string s0] 72)).drew.heap[w.heap.size]? = some (.cells #[.int .i64 xi, .string T, .string s0] 72 (0, 0))) := ⟨hHeld, heap_of_new _ _ _ rfl⟩
      clear hHeld
      go_wp2_with fail
      suffices H4 : ∀ W, Fr [] w W → W.heap[w.heap.size]? = some (.cells #[.int .i64 xi, .string T, .string s0] 72 (0, 0)) → Code.wp Tryz.prog _ _ _ W from H4 _ HS3.out.1 HS3.out.2
      clear HS3
      intro W F0 q0
      refine wp_region_held_drew (S := fun W' => Fr [] w W' ∧ W'.heap[w.heap.size]? = some (.cells #[.int .i64 xi, .string T, .string s0] 72 (0, 0))) (by kernel_rfl) ⟨F0.drew, q0⟩ (fun hHeld => ?_)
      refine wpAnyH_take (i := 0) (v := ?v13) rfl (by kernel_rfl) (by kernel_rfl) (by kernel_rfl) (fun _ _ _ h => h) (Or.inl ⟨by rfl, ?y13⟩) (by assumption) ?r13
      case y13 => (intro W' hW; go_simp; try with_reducible rfl)
      try simp only [Act.put, List.getElem_toArray, List.getElem_cons_zero, List.setIfInBounds_toArray, List.set_cons_zero, List.set_cons_succ]
      refine wpAnyH_take (i := 1) (v := ?v14) rfl (by kernel_rfl) (by kernel_rfl) (by kernel_rfl) (fun _ _ _ h => h) (Or.inl ⟨by rfl, ?y14⟩) (by assumption) ?r14
      case y14 => (intro W' hW; go_simp; try with_reducible rfl)
      try simp only [Act.put, List.getElem_toArray, List.getElem_cons_zero, List.getElem_cons_succ, List.setIfInBounds_toArray, List.set_cons_zero, List.set_cons_succ]
      refine wpAnyH_take (i := 2) (v := ?v15) rfl (by kernel_rfl) (by kernel_rfl) (by kernel_rfl) (fun _ _ _ h => h) (Or.inl ⟨by rfl, ?y15⟩) (by assumption) ?r15
      case y15 => (intro W' hW; go_simp; try with_reducible rfl)
      try simp only [Act.put, List.getElem_toArray, List.getElem_cons_zero, List.getElem_cons_succ, List.setIfInBounds_toArray, List.set_cons_zero, List.set_cons_succ]
      refine wpAnyH_take (i := 3) (v := ?v16) rfl (by kernel_rfl) (by kernel_rfl) (by kernel_rfl) (fun _ _ _ h => h) (Or.inl ⟨by rfl, ?y16⟩) (by assumption) ?r16
      case y16 => (intro W' hW; have c1 := HC.out.2.1 _ hW.1; go_simp; try with_reducible rfl)
      try simp only [Act.put, List.getElem_toArray, List.getElem_cons_zero, List.getElem_cons_succ, List.setIfInBounds_toArray, List.set_cons_zero, List.set_cons_succ]
      refine wpAnyH_take (i := 4) (v := ?v17) rfl (by kernel_rfl) (by kernel_rfl) (by kernel_rfl) (fun _ _ _ h => h) (Or.inl ⟨by rfl, ?y17⟩) (by assumption) ?r17
      case y17 => (intro W' hW; go_simp; try with_reducible rfl)
      try simp only [Act.put, List.getElem_toArray, List.getElem_cons_zero, List.getElem_cons_succ, List.setIfInBounds_toArray, List.set_cons_zero, List.set_cons_succ]
      refine wpAnyH_take (i := 5) (v := ?v18) rfl (by kernel_rfl) (by kernel_rfl) (by kernel_rfl) (fun _ _ _ h => h) (Or.inl ⟨by rfl, ?y18⟩) (by assumption) ?r18
      case y18 => (intro W' hW; obtain ⟨q0, q1, q2⟩ := cells3G hW.2; go_simp; try with_reducible rfl)
      try simp only [Act.put, List.getElem_toArray, List.getElem_cons_zero, List.getElem_cons_succ, List.setIfInBounds_toArray, List.set_cons_zero, List.set_cons_succ]
      refine wpAnyH_ready (rs := [6]) (by kernel_rfl) (by simp) ?_
      refine AllReadyH.cons rfl (fun K hK => ?_) ?nil6
      case nil6 => exact AllReadyH.nil
      go_simp
      refine Calls.mono (HTO.out _ hHeld.1) ?_
      rintro e w1 ⟨⟨s, r, rfl, ho⟩, f1⟩
      have HO : Hid _ := HOP.out s r ho
      have S2 := And.intro (hHeld.1.trans f1) (keepRow f1 hHeld.2 (by simp))
      clear ho f1
      go_wp2_with fail
      refine hK.out _ _ S2 (fun hHeld => ?_)
      clear hK K
      clear S2
      refine wpAnyH_take (i := 7) (v := ?v19) rfl (by kernel_rfl) (by kernel_rfl) (by kernel_rfl) (fun _ _ _ h => h) (Or.inl ⟨by rfl, ?y19⟩) (by assumption) ?r19
      case y19 => (intro W' hW; go_simp; try with_reducible rfl)
      try simp only [Act.put, List.getElem_toArray, List.getElem_cons_zero, List.getElem_cons_succ, List.setIfInBounds_toArray, List.set_cons_zero, List.set_cons_succ]
      refine wpAnyH_take (i := 8) (v := ?v20) rfl (by kernel_rfl) (by kernel_rfl) (by kernel_rfl) (fun _ _ _ h => h) (Or.inl ⟨by rfl, ?y20⟩) (by assumption) ?r20
      case y20 => (intro W' hW; go_simp; try with_reducible rfl)
      try simp only [Act.put, List.getElem_toArray, List.getElem_cons_zero, List.getElem_cons_succ, List.setIfInBounds_toArray, List.set_cons_zero, List.set_cons_succ]
      refine wpAnyH_take (i := 9) (v := ?v21) rfl (by kernel_rfl) (by kernel_rfl) (by kernel_rfl) (fun _ _ _ h => h) (Or.inl ⟨by rfl, ?y21⟩) (by assumption) ?r21
      case y21 => (intro W' hW; go_simp; try with_reducible rfl)
      try simp only [Act.put, List.getElem_toArray, List.getElem_cons_zero, List.getElem_cons_succ, List.setIfInBounds_toArray, List.set_cons_zero, List.set_cons_succ]
      refine wpAnyH_take (i := 10) (v := ?v22) rfl (by kernel_rfl) (by kernel_rfl) (by kernel_rfl) (fun _ _ _ h => h) (Or.inl ⟨by rfl, ?y22⟩) (by assumption) ?r22
      case y22 => (intro W' hW; go_simp; try with_reducible rfl)
      try simp only [Act.put, List.getElem_toArray, List.getElem_cons_zero, List.getElem_cons_succ, List.setIfInBounds_toArray, List.set_cons_zero, List.set_cons_succ]
      refine wpAnyH_take (i := 11) (v := ?v23) rfl (by kernel_rfl) (by kernel_rfl) (by kernel_rfl) (fun _ _ _ h => h) (Or.inl ⟨by rfl, ?y23⟩) (by assumption) ?r23
      case y23 => (intro W' hW; go_simp; try with_reducible rfl)
      try simp only [Act.put, List.getElem_toArray, List.getElem_cons_zero, List.getElem_cons_succ, List.setIfInBounds_toArray, List.set_cons_zero, List.set_cons_succ]
      refine wpAnyH_done (by kernel_rfl) ?_ _
      have HS4 : Hid _ := hHeld
      rcases HO.out with ⟨e1, e2, e3⟩ | ⟨e1, e2, e3⟩
      · have er : (((K xi).ret : Int) == 1) = true := by rw [e1]; rfl
        rw [e2, e3]
        clear e1 e2 e3 HO
        clear hHeld
        go_wp2_with fail
        suffices H5 : ∀ W, Fr [] w W → W.heap[w.heap.size]? = some (.cells #[.int .i64 xi, .string T, .string s0] 72 (0, 0)) → Code.wp Tryz.prog _ _ _ W from H5 _ HS4.out.1 HS4.out.2
        clear HS4
        intro W F0 q0
        refine wp_region_held_drew (S := fun W' => Fr [] w W' ∧ W'.heap[w.heap.size]? = some (.cells #[.int .i64 xi, .string T, .string s0] 72 (0, 0))) (by kernel_rfl) ⟨F0.drew, q0⟩ (fun hHeld => ?_)
        refine wpAnyH_take (i := 0) (v := ?v24) rfl (by kernel_rfl) (by kernel_rfl) (by kernel_rfl) (fun _ _ _ h => h) (Or.inl ⟨by rfl, ?y24⟩) (by assumption) ?r24
        case y24 => (intro W' hW; go_simp; try with_reducible rfl)
        try simp only [Act.put, List.getElem_toArray, List.getElem_cons_zero, List.setIfInBounds_toArray, List.set_cons_zero, List.set_cons_succ]
        refine wpAnyH_take (i := 1) (v := ?v25) rfl (by kernel_rfl) (by kernel_rfl) (by kernel_rfl) (fun _ _ _ h => h) (Or.inl ⟨by rfl, ?y25⟩) (by assumption) ?r25
        case y25 => (intro W' hW; go_simp; try with_reducible rfl)
        try simp only [Act.put, List.getElem_toArray, List.getElem_cons_zero, List.getElem_cons_succ, List.setIfInBounds_toArray, List.set_cons_zero, List.set_cons_succ]
        refine wpAnyH_take (i := 2) (v := ?v26) rfl (by kernel_rfl) (by kernel_rfl) (by kernel_rfl) (fun _ _ _ h => h) (Or.inl ⟨by rfl, ?y26⟩) (by assumption) ?r26
        case y26 => (intro W' hW; obtain ⟨q0, q1, q2⟩ := cells3G hW.2; go_simp; try with_reducible rfl)
        try simp only [Act.put, List.getElem_toArray, List.getElem_cons_zero, List.getElem_cons_succ, List.setIfInBounds_toArray, List.set_cons_zero, List.set_cons_succ]
        refine wpAnyH_take (i := 3) (v := ?v27) rfl (by kernel_rfl) (by kernel_rfl) (by kernel_rfl) (fun _ _ _ h => h) (Or.inl ⟨by rfl, ?y27⟩) (by assumption) ?r27
        case y27 => (intro W' hW; go_simp; try with_reducible rfl)
        try simp only [Act.put, List.getElem_toArray, List.getElem_cons_zero, List.getElem_cons_succ, List.setIfInBounds_toArray, List.set_cons_zero, List.set_cons_succ]
        refine wpAnyH_take (i := 4) (v := ?v28) rfl (by kernel_rfl) (by kernel_rfl) (by kernel_rfl) (fun _ _ _ h => h) (Or.inl ⟨by rfl, ?y28⟩) (by assumption) ?r28
        case y28 => (intro W' hW; go_simp; try with_reducible rfl)
        try simp only [Act.put, List.getElem_toArray, List.getElem_cons_zero, List.getElem_cons_succ, List.setIfInBounds_toArray, List.set_cons_zero, List.set_cons_succ]
        refine wpAnyH_take (i := 5) (v := ?v29) rfl (by kernel_rfl) (by kernel_rfl) (by kernel_rfl) (fun _ _ _ h => h) (Or.inl ⟨by rfl, ?y29⟩) (by assumption) ?r29
        case y29 => (intro W' hW; go_simp; try with_reducible rfl)
        try simp only [Act.put, List.getElem_toArray, List.getElem_cons_zero, List.getElem_cons_succ, List.setIfInBounds_toArray, List.set_cons_zero, List.set_cons_succ]
        refine wpAnyH_take (i := 6) (v := ?v30) rfl (by kernel_rfl) (by kernel_rfl) (by kernel_rfl) (fun _ _ _ h => h) (Or.inl ⟨by rfl, ?y30⟩) (by assumption) ?r30
        case y30 => (intro W' hW; go_simp; try with_reducible rfl)
        try simp only [Act.put, List.getElem_toArray, List.getElem_cons_zero, List.getElem_cons_succ, List.setIfInBounds_toArray, List.set_cons_zero, List.set_cons_succ]
        refine wpAnyH_take (i := 7) (v := ?v31) rfl (by kernel_rfl) (by kernel_rfl) (by kernel_rfl) (fun _ _ _ h => h) (Or.inl ⟨by rfl, ?y31⟩) (by assumption) ?r31
        case y31 => (intro W' hW; have kr := HC.out.2.2.1 _ hW.1; go_simp; try with_reducible rfl)
        try simp only [Act.put, List.getElem_toArray, List.getElem_cons_zero, List.getElem_cons_succ, List.setIfInBounds_toArray, List.set_cons_zero, List.set_cons_succ]
        refine wpAnyH_take (i := 8) (v := ?v32) rfl (by kernel_rfl) (by kernel_rfl) (by kernel_rfl) (fun _ _ _ h => h) (Or.inl ⟨by rfl, ?y32⟩) (by assumption) ?r32
        case y32 => (intro W' hW; go_simp; try with_reducible rfl)
        try simp only [Act.put, List.getElem_toArray, List.getElem_cons_zero, List.getElem_cons_succ, List.setIfInBounds_toArray, List.set_cons_zero, List.set_cons_succ]
        refine wpAnyH_done (by kernel_rfl) ?_ _
        obtain ⟨q0, q1, q2⟩ := cells3G hHeld.2
        have HF : Hid _ := hHeld.1
        clear hHeld
        go_wp2
        go_ret
        exact ⟨rfl, HF.out⟩
      · have er : (((K xi).ret : Int) == 1) = false := by rw [beq_eq_false_iff_ne]; omega
        rw [e2, e3]
        clear e1 e2 e3 HO
        clear hHeld
        go_wp2_with fail
        suffices H5 : ∀ W, Fr [] w W → W.heap[w.heap.size]? = some (.cells #[.int .i64 xi, .string T, .string s0] 72 (0, 0)) → Code.wp Tryz.prog _ _ _ W from H5 _ HS4.out.1 HS4.out.2
        clear HS4
        intro W F0 q0
        refine wp_region_held_drew (S := fun W' => Fr [] w W' ∧ W'.heap[w.heap.size]? = some (.cells #[.int .i64 xi, .string T, .string s0] 72 (0, 0))) (by kernel_rfl) ⟨F0.drew, q0⟩ (fun hHeld => ?_)
        refine wpAnyH_take (i := 0) (v := ?v33) rfl (by kernel_rfl) (by kernel_rfl) (by kernel_rfl) (fun _ _ _ h => h) (Or.inl ⟨by rfl, ?y33⟩) (by assumption) ?r33
        case y33 => (intro W' hW; go_simp; try with_reducible rfl)
        try simp only [Act.put, List.getElem_toArray, List.getElem_cons_zero, List.setIfInBounds_toArray, List.set_cons_zero, List.set_cons_succ]
        refine wpAnyH_take (i := 1) (v := ?v34) rfl (by kernel_rfl) (by kernel_rfl) (by kernel_rfl) (fun _ _ _ h => h) (Or.inl ⟨by rfl, ?y34⟩) (by assumption) ?r34
        case y34 => (intro W' hW; go_simp; try with_reducible rfl)
        try simp only [Act.put, List.getElem_toArray, List.getElem_cons_zero, List.getElem_cons_succ, List.setIfInBounds_toArray, List.set_cons_zero, List.set_cons_succ]
        refine wpAnyH_take (i := 2) (v := ?v35) rfl (by kernel_rfl) (by kernel_rfl) (by kernel_rfl) (fun _ _ _ h => h) (Or.inl ⟨by rfl, ?y35⟩) (by assumption) ?r35
        case y35 => (intro W' hW; obtain ⟨q0, q1, q2⟩ := cells3G hW.2; go_simp; try with_reducible rfl)
        try simp only [Act.put, List.getElem_toArray, List.getElem_cons_zero, List.getElem_cons_succ, List.setIfInBounds_toArray, List.set_cons_zero, List.set_cons_succ]
        refine wpAnyH_take (i := 3) (v := ?v36) rfl (by kernel_rfl) (by kernel_rfl) (by kernel_rfl) (fun _ _ _ h => h) (Or.inl ⟨by rfl, ?y36⟩) (by assumption) ?r36
        case y36 => (intro W' hW; go_simp; try with_reducible rfl)
        try simp only [Act.put, List.getElem_toArray, List.getElem_cons_zero, List.getElem_cons_succ, List.setIfInBounds_toArray, List.set_cons_zero, List.set_cons_succ]
        refine wpAnyH_take (i := 4) (v := ?v37) rfl (by kernel_rfl) (by kernel_rfl) (by kernel_rfl) (fun _ _ _ h => h) (Or.inl ⟨by rfl, ?y37⟩) (by assumption) ?r37
        case y37 => (intro W' hW; go_simp; try with_reducible rfl)
        try simp only [Act.put, List.getElem_toArray, List.getElem_cons_zero, List.getElem_cons_succ, List.setIfInBounds_toArray, List.set_cons_zero, List.set_cons_succ]
        refine wpAnyH_take (i := 5) (v := ?v38) rfl (by kernel_rfl) (by kernel_rfl) (by kernel_rfl) (fun _ _ _ h => h) (Or.inl ⟨by rfl, ?y38⟩) (by assumption) ?r38
        case y38 => (intro W' hW; go_simp; try with_reducible rfl)
        try simp only [Act.put, List.getElem_toArray, List.getElem_cons_zero, List.getElem_cons_succ, List.setIfInBounds_toArray, List.set_cons_zero, List.set_cons_succ]
        refine wpAnyH_take (i := 6) (v := ?v39) rfl (by kernel_rfl) (by kernel_rfl) (by kernel_rfl) (fun _ _ _ h => h) (Or.inl ⟨by rfl, ?y39⟩) (by assumption) ?r39
        case y39 => (intro W' hW; go_simp; try with_reducible rfl)
        try simp only [Act.put, List.getElem_toArray, List.getElem_cons_zero, List.getElem_cons_succ, List.setIfInBounds_toArray, List.set_cons_zero, List.set_cons_succ]
        refine wpAnyH_take (i := 7) (v := ?v40) rfl (by kernel_rfl) (by kernel_rfl) (by kernel_rfl) (fun _ _ _ h => h) (Or.inl ⟨by rfl, ?y40⟩) (by assumption) ?r40
        case y40 => (intro W' hW; have kr := HC.out.2.2.1 _ hW.1; go_simp; try with_reducible rfl)
        try simp only [Act.put, List.getElem_toArray, List.getElem_cons_zero, List.getElem_cons_succ, List.setIfInBounds_toArray, List.set_cons_zero, List.set_cons_succ]
        refine wpAnyH_take (i := 8) (v := ?v41) rfl (by kernel_rfl) (by kernel_rfl) (by kernel_rfl) (fun _ _ _ h => h) (Or.inl ⟨by rfl, ?y41⟩) (by assumption) ?r41
        case y41 => (intro W' hW; go_simp; try with_reducible rfl)
        try simp only [Act.put, List.getElem_toArray, List.getElem_cons_zero, List.getElem_cons_succ, List.setIfInBounds_toArray, List.set_cons_zero, List.set_cons_succ]
        refine wpAnyH_done (by kernel_rfl) ?_ _
        obtain ⟨q0, q1, q2⟩ := cells3G hHeld.2
        have HF : Hid _ := hHeld.1
        clear hHeld
        go_wp2
        go_ret
        exact ⟨rfl, HF.out⟩
    · skip
      go_simp
      refine hK.out _ _ (Fr.alloc hHeld _) (fun hHeld => ?_)
      clear hK KK
      refine wpAnyH_ready (rs := [10]) (by kernel_rfl) (by simp) ?_
      refine AllReadyH.cons rfl (fun KK hK => ?_) AllReadyH.nil
      go_simp
      refine (HPK.out _).mono ?_
      rintro e w1 ⟨rfl, rfl⟩
      go_wp2_with fail
      refine hK.out _ _ hHeld (fun hHeld => ?_)
      clear hK KK
      refine wpAnyH_take (i := 11) (v := ?v42) rfl (by kernel_rfl) (by kernel_rfl) (by kernel_rfl) (fun _ _ _ h => h) (Or.inl ⟨by rfl, ?y42⟩) (by assumption) ?r42
      case y42 => (intro W' hW; go_simp; try with_reducible rfl)
      try simp only [Act.put, List.getElem_toArray, List.getElem_cons_zero, List.getElem_cons_succ, List.setIfInBounds_toArray, List.set_cons_zero, List.set_cons_succ]
      refine wpAnyH_take (i := 12) (v := ?v43) rfl (by kernel_rfl) (by kernel_rfl) (by kernel_rfl) (fun _ _ _ h => h) (Or.inl ⟨by rfl, ?y43⟩) (by assumption) ?r43
      case y43 => (intro W' hW; have d0 := HC.out.2.2.2.1 _ hW; have d1 := HC.out.2.2.2.2.1 _ hW; have d2 := HC.out.2.2.2.2.2 _ hW; go_simp; try with_reducible rfl)
      try simp only [Act.put, List.getElem_toArray, List.getElem_cons_zero, List.getElem_cons_succ, List.setIfInBounds_toArray, List.set_cons_zero, List.set_cons_succ]
      refine wpAnyH_ready (rs := [14]) (by kernel_rfl) (by simp) ?_
      refine AllReadyH.cons rfl (fun KK hK => ?_) AllReadyH.nil
      go_simp
      refine hK.out _ _ ((Fr.refl _ _).alloc _).drew (fun hHeld => ?_)
      clear hK KK
      refine wpAnyH_done (by kernel_rfl) ?_ _
      have HS3 : Hid (Fr [] w (w.alloc (.cells #[.int .i64 xi, .string T, .string s0] 72)).drew ∧ (w.alloc (.cells #[.int .i64 xi, .string T, .string s0] 72)).drew.heap[w.heap.size]? = some (.cells #[.int .i64 xi, .string T, .string s0] 72 (0, 0))) := ⟨hHeld, heap_of_new _ _ _ rfl⟩
      clear hHeld
      go_wp2_with fail
      suffices H4 : ∀ W, Fr [] w W → W.heap[w.heap.size]? = some (.cells #[.int .i64 xi, .string T, .string s0] 72 (0, 0)) → Code.wp Tryz.prog _ _ _ W from H4 _ HS3.out.1 HS3.out.2
      clear HS3
      intro W F0 q0
      refine wp_region_held_drew (S := fun W' => Fr [] w W' ∧ W'.heap[w.heap.size]? = some (.cells #[.int .i64 xi, .string T, .string s0] 72 (0, 0))) (by kernel_rfl) ⟨F0.drew, q0⟩ (fun hHeld => ?_)
      refine wpAnyH_take (i := 0) (v := ?v44) rfl (by kernel_rfl) (by kernel_rfl) (by kernel_rfl) (fun _ _ _ h => h) (Or.inl ⟨by rfl, ?y44⟩) (by assumption) ?r44
      case y44 => (intro W' hW; go_simp; try with_reducible rfl)
      try simp only [Act.put, List.getElem_toArray, List.getElem_cons_zero, List.setIfInBounds_toArray, List.set_cons_zero, List.set_cons_succ]
      refine wpAnyH_take (i := 1) (v := ?v45) rfl (by kernel_rfl) (by kernel_rfl) (by kernel_rfl) (fun _ _ _ h => h) (Or.inl ⟨by rfl, ?y45⟩) (by assumption) ?r45
      case y45 => (intro W' hW; go_simp; try with_reducible rfl)
      try simp only [Act.put, List.getElem_toArray, List.getElem_cons_zero, List.getElem_cons_succ, List.setIfInBounds_toArray, List.set_cons_zero, List.set_cons_succ]
      refine wpAnyH_take (i := 2) (v := ?v46) rfl (by kernel_rfl) (by kernel_rfl) (by kernel_rfl) (fun _ _ _ h => h) (Or.inl ⟨by rfl, ?y46⟩) (by assumption) ?r46
      case y46 => (intro W' hW; go_simp; try with_reducible rfl)
      try simp only [Act.put, List.getElem_toArray, List.getElem_cons_zero, List.getElem_cons_succ, List.setIfInBounds_toArray, List.set_cons_zero, List.set_cons_succ]
      refine wpAnyH_take (i := 3) (v := ?v47) rfl (by kernel_rfl) (by kernel_rfl) (by kernel_rfl) (fun _ _ _ h => h) (Or.inl ⟨by rfl, ?y47⟩) (by assumption) ?r47
      case y47 => (intro W' hW; have c1 := HC.out.2.1 _ hW.1; go_simp; try with_reducible rfl)
      try simp only [Act.put, List.getElem_toArray, List.getElem_cons_zero, List.getElem_cons_succ, List.setIfInBounds_toArray, List.set_cons_zero, List.set_cons_succ]
      refine wpAnyH_take (i := 4) (v := ?v48) rfl (by kernel_rfl) (by kernel_rfl) (by kernel_rfl) (fun _ _ _ h => h) (Or.inl ⟨by rfl, ?y48⟩) (by assumption) ?r48
      case y48 => (intro W' hW; go_simp; try with_reducible rfl)
      try simp only [Act.put, List.getElem_toArray, List.getElem_cons_zero, List.getElem_cons_succ, List.setIfInBounds_toArray, List.set_cons_zero, List.set_cons_succ]
      refine wpAnyH_take (i := 5) (v := ?v49) rfl (by kernel_rfl) (by kernel_rfl) (by kernel_rfl) (fun _ _ _ h => h) (Or.inl ⟨by rfl, ?y49⟩) (by assumption) ?r49
      case y49 => (intro W' hW; obtain ⟨q0, q1, q2⟩ := cells3G hW.2; go_simp; try with_reducible rfl)
      try simp only [Act.put, List.getElem_toArray, List.getElem_cons_zero, List.getElem_cons_succ, List.setIfInBounds_toArray, List.set_cons_zero, List.set_cons_succ]
      refine wpAnyH_ready (rs := [6]) (by kernel_rfl) (by simp) ?_
      refine AllReadyH.cons rfl (fun K hK => ?_) ?nil6
      case nil6 => exact AllReadyH.nil
      go_simp
      refine Calls.mono (HTO.out _ hHeld.1) ?_
      rintro e w1 ⟨⟨s, r, rfl, ho⟩, f1⟩
      have HO : Hid _ := HOP.out s r ho
      have S2 := And.intro (hHeld.1.trans f1) (keepRow f1 hHeld.2 (by simp))
      clear ho f1
      go_wp2_with fail
      refine hK.out _ _ S2 (fun hHeld => ?_)
      clear hK K
      clear S2
      refine wpAnyH_take (i := 7) (v := ?v50) rfl (by kernel_rfl) (by kernel_rfl) (by kernel_rfl) (fun _ _ _ h => h) (Or.inl ⟨by rfl, ?y50⟩) (by assumption) ?r50
      case y50 => (intro W' hW; go_simp; try with_reducible rfl)
      try simp only [Act.put, List.getElem_toArray, List.getElem_cons_zero, List.getElem_cons_succ, List.setIfInBounds_toArray, List.set_cons_zero, List.set_cons_succ]
      refine wpAnyH_take (i := 8) (v := ?v51) rfl (by kernel_rfl) (by kernel_rfl) (by kernel_rfl) (fun _ _ _ h => h) (Or.inl ⟨by rfl, ?y51⟩) (by assumption) ?r51
      case y51 => (intro W' hW; go_simp; try with_reducible rfl)
      try simp only [Act.put, List.getElem_toArray, List.getElem_cons_zero, List.getElem_cons_succ, List.setIfInBounds_toArray, List.set_cons_zero, List.set_cons_succ]
      refine wpAnyH_take (i := 9) (v := ?v52) rfl (by kernel_rfl) (by kernel_rfl) (by kernel_rfl) (fun _ _ _ h => h) (Or.inl ⟨by rfl, ?y52⟩) (by assumption) ?r52
      case y52 => (intro W' hW; go_simp; try with_reducible rfl)
      try simp only [Act.put, List.getElem_toArray, List.getElem_cons_zero, List.getElem_cons_succ, List.setIfInBounds_toArray, List.set_cons_zero, List.set_cons_succ]
      refine wpAnyH_take (i := 10) (v := ?v53) rfl (by kernel_rfl) (by kernel_rfl) (by kernel_rfl) (fun _ _ _ h => h) (Or.inl ⟨by rfl, ?y53⟩) (by assumption) ?r53
      case y53 => (intro W' hW; go_simp; try with_reducible rfl)
      try simp only [Act.put, List.getElem_toArray, List.getElem_cons_zero, List.getElem_cons_succ, List.setIfInBounds_toArray, List.set_cons_zero, List.set_cons_succ]
      refine wpAnyH_take (i := 11) (v := ?v54) rfl (by kernel_rfl) (by kernel_rfl) (by kernel_rfl) (fun _ _ _ h => h) (Or.inl ⟨by rfl, ?y54⟩) (by assumption) ?r54
      case y54 => (intro W' hW; go_simp; try with_reducible rfl)
      try simp only [Act.put, List.getElem_toArray, List.getElem_cons_zero, List.getElem_cons_succ, List.setIfInBounds_toArray, List.set_cons_zero, List.set_cons_succ]
      refine wpAnyH_done (by kernel_rfl) ?_ _
      have HS4 : Hid _ := hHeld
      rcases HO.out with ⟨e1, e2, e3⟩ | ⟨e1, e2, e3⟩
      · have er : (((K xi).ret : Int) == 1) = true := by rw [e1]; rfl
        rw [e2, e3]
        clear e1 e2 e3 HO
        clear hHeld
        go_wp2_with fail
        suffices H5 : ∀ W, Fr [] w W → W.heap[w.heap.size]? = some (.cells #[.int .i64 xi, .string T, .string s0] 72 (0, 0)) → Code.wp Tryz.prog _ _ _ W from H5 _ HS4.out.1 HS4.out.2
        clear HS4
        intro W F0 q0
        refine wp_region_held_drew (S := fun W' => Fr [] w W' ∧ W'.heap[w.heap.size]? = some (.cells #[.int .i64 xi, .string T, .string s0] 72 (0, 0))) (by kernel_rfl) ⟨F0.drew, q0⟩ (fun hHeld => ?_)
        refine wpAnyH_take (i := 0) (v := ?v55) rfl (by kernel_rfl) (by kernel_rfl) (by kernel_rfl) (fun _ _ _ h => h) (Or.inl ⟨by rfl, ?y55⟩) (by assumption) ?r55
        case y55 => (intro W' hW; go_simp; try with_reducible rfl)
        try simp only [Act.put, List.getElem_toArray, List.getElem_cons_zero, List.setIfInBounds_toArray, List.set_cons_zero, List.set_cons_succ]
        refine wpAnyH_take (i := 1) (v := ?v56) rfl (by kernel_rfl) (by kernel_rfl) (by kernel_rfl) (fun _ _ _ h => h) (Or.inl ⟨by rfl, ?y56⟩) (by assumption) ?r56
        case y56 => (intro W' hW; go_simp; try with_reducible rfl)
        try simp only [Act.put, List.getElem_toArray, List.getElem_cons_zero, List.getElem_cons_succ, List.setIfInBounds_toArray, List.set_cons_zero, List.set_cons_succ]
        refine wpAnyH_take (i := 2) (v := ?v57) rfl (by kernel_rfl) (by kernel_rfl) (by kernel_rfl) (fun _ _ _ h => h) (Or.inl ⟨by rfl, ?y57⟩) (by assumption) ?r57
        case y57 => (intro W' hW; obtain ⟨q0, q1, q2⟩ := cells3G hW.2; go_simp; try with_reducible rfl)
        try simp only [Act.put, List.getElem_toArray, List.getElem_cons_zero, List.getElem_cons_succ, List.setIfInBounds_toArray, List.set_cons_zero, List.set_cons_succ]
        refine wpAnyH_take (i := 3) (v := ?v58) rfl (by kernel_rfl) (by kernel_rfl) (by kernel_rfl) (fun _ _ _ h => h) (Or.inl ⟨by rfl, ?y58⟩) (by assumption) ?r58
        case y58 => (intro W' hW; go_simp; try with_reducible rfl)
        try simp only [Act.put, List.getElem_toArray, List.getElem_cons_zero, List.getElem_cons_succ, List.setIfInBounds_toArray, List.set_cons_zero, List.set_cons_succ]
        refine wpAnyH_take (i := 4) (v := ?v59) rfl (by kernel_rfl) (by kernel_rfl) (by kernel_rfl) (fun _ _ _ h => h) (Or.inl ⟨by rfl, ?y59⟩) (by assumption) ?r59
        case y59 => (intro W' hW; go_simp; try with_reducible rfl)
        try simp only [Act.put, List.getElem_toArray, List.getElem_cons_zero, List.getElem_cons_succ, List.setIfInBounds_toArray, List.set_cons_zero, List.set_cons_succ]
        refine wpAnyH_take (i := 5) (v := ?v60) rfl (by kernel_rfl) (by kernel_rfl) (by kernel_rfl) (fun _ _ _ h => h) (Or.inl ⟨by rfl, ?y60⟩) (by assumption) ?r60
        case y60 => (intro W' hW; go_simp; try with_reducible rfl)
        try simp only [Act.put, List.getElem_toArray, List.getElem_cons_zero, List.getElem_cons_succ, List.setIfInBounds_toArray, List.set_cons_zero, List.set_cons_succ]
        refine wpAnyH_take (i := 6) (v := ?v61) rfl (by kernel_rfl) (by kernel_rfl) (by kernel_rfl) (fun _ _ _ h => h) (Or.inl ⟨by rfl, ?y61⟩) (by assumption) ?r61
        case y61 => (intro W' hW; go_simp; try with_reducible rfl)
        try simp only [Act.put, List.getElem_toArray, List.getElem_cons_zero, List.getElem_cons_succ, List.setIfInBounds_toArray, List.set_cons_zero, List.set_cons_succ]
        refine wpAnyH_take (i := 7) (v := ?v62) rfl (by kernel_rfl) (by kernel_rfl) (by kernel_rfl) (fun _ _ _ h => h) (Or.inl ⟨by rfl, ?y62⟩) (by assumption) ?r62
        case y62 => (intro W' hW; have kr := HC.out.2.2.1 _ hW.1; go_simp; try with_reducible rfl)
        try simp only [Act.put, List.getElem_toArray, List.getElem_cons_zero, List.getElem_cons_succ, List.setIfInBounds_toArray, List.set_cons_zero, List.set_cons_succ]
        refine wpAnyH_take (i := 8) (v := ?v63) rfl (by kernel_rfl) (by kernel_rfl) (by kernel_rfl) (fun _ _ _ h => h) (Or.inl ⟨by rfl, ?y63⟩) (by assumption) ?r63
        case y63 => (intro W' hW; go_simp; try with_reducible rfl)
        try simp only [Act.put, List.getElem_toArray, List.getElem_cons_zero, List.getElem_cons_succ, List.setIfInBounds_toArray, List.set_cons_zero, List.set_cons_succ]
        refine wpAnyH_done (by kernel_rfl) ?_ _
        obtain ⟨q0, q1, q2⟩ := cells3G hHeld.2
        have HF : Hid _ := hHeld.1
        clear hHeld
        go_wp2
        go_ret
        exact ⟨rfl, HF.out⟩
      · have er : (((K xi).ret : Int) == 1) = false := by rw [beq_eq_false_iff_ne]; omega
        rw [e2, e3]
        clear e1 e2 e3 HO
        clear hHeld
        go_wp2_with fail
        suffices H5 : ∀ W, Fr [] w W → W.heap[w.heap.size]? = some (.cells #[.int .i64 xi, .string T, .string s0] 72 (0, 0)) → Code.wp Tryz.prog _ _ _ W from H5 _ HS4.out.1 HS4.out.2
        clear HS4
        intro W F0 q0
        refine wp_region_held_drew (S := fun W' => Fr [] w W' ∧ W'.heap[w.heap.size]? = some (.cells #[.int .i64 xi, .string T, .string s0] 72 (0, 0))) (by kernel_rfl) ⟨F0.drew, q0⟩ (fun hHeld => ?_)
        refine wpAnyH_take (i := 0) (v := ?v64) rfl (by kernel_rfl) (by kernel_rfl) (by kernel_rfl) (fun _ _ _ h => h) (Or.inl ⟨by rfl, ?y64⟩) (by assumption) ?r64
        case y64 => (intro W' hW; go_simp; try with_reducible rfl)
        try simp only [Act.put, List.getElem_toArray, List.getElem_cons_zero, List.setIfInBounds_toArray, List.set_cons_zero, List.set_cons_succ]
        refine wpAnyH_take (i := 1) (v := ?v65) rfl (by kernel_rfl) (by kernel_rfl) (by kernel_rfl) (fun _ _ _ h => h) (Or.inl ⟨by rfl, ?y65⟩) (by assumption) ?r65
        case y65 => (intro W' hW; go_simp; try with_reducible rfl)
        try simp only [Act.put, List.getElem_toArray, List.getElem_cons_zero, List.getElem_cons_succ, List.setIfInBounds_toArray, List.set_cons_zero, List.set_cons_succ]
        refine wpAnyH_take (i := 2) (v := ?v66) rfl (by kernel_rfl) (by kernel_rfl) (by kernel_rfl) (fun _ _ _ h => h) (Or.inl ⟨by rfl, ?y66⟩) (by assumption) ?r66
        case y66 => (intro W' hW; obtain ⟨q0, q1, q2⟩ := cells3G hW.2; go_simp; try with_reducible rfl)
        try simp only [Act.put, List.getElem_toArray, List.getElem_cons_zero, List.getElem_cons_succ, List.setIfInBounds_toArray, List.set_cons_zero, List.set_cons_succ]
        refine wpAnyH_take (i := 3) (v := ?v67) rfl (by kernel_rfl) (by kernel_rfl) (by kernel_rfl) (fun _ _ _ h => h) (Or.inl ⟨by rfl, ?y67⟩) (by assumption) ?r67
        case y67 => (intro W' hW; go_simp; try with_reducible rfl)
        try simp only [Act.put, List.getElem_toArray, List.getElem_cons_zero, List.getElem_cons_succ, List.setIfInBounds_toArray, List.set_cons_zero, List.set_cons_succ]
        refine wpAnyH_take (i := 4) (v := ?v68) rfl (by kernel_rfl) (by kernel_rfl) (by kernel_rfl) (fun _ _ _ h => h) (Or.inl ⟨by rfl, ?y68⟩) (by assumption) ?r68
        case y68 => (intro W' hW; go_simp; try with_reducible rfl)
        try simp only [Act.put, List.getElem_toArray, List.getElem_cons_zero, List.getElem_cons_succ, List.setIfInBounds_toArray, List.set_cons_zero, List.set_cons_succ]
        refine wpAnyH_take (i := 5) (v := ?v69) rfl (by kernel_rfl) (by kernel_rfl) (by kernel_rfl) (fun _ _ _ h => h) (Or.inl ⟨by rfl, ?y69⟩) (by assumption) ?r69
        case y69 => (intro W' hW; go_simp; try with_reducible rfl)
        try simp only [Act.put, List.getElem_toArray, List.getElem_cons_zero, List.getElem_cons_succ, List.setIfInBounds_toArray, List.set_cons_zero, List.set_cons_succ]
        refine wpAnyH_take (i := 6) (v := ?v70) rfl (by kernel_rfl) (by kernel_rfl) (by kernel_rfl) (fun _ _ _ h => h) (Or.inl ⟨by rfl, ?y70⟩) (by assumption) ?r70
        case y70 => (intro W' hW; go_simp; try with_reducible rfl)
        try simp only [Act.put, List.getElem_toArray, List.getElem_cons_zero, List.getElem_cons_succ, List.setIfInBounds_toArray, List.set_cons_zero, List.set_cons_succ]
        refine wpAnyH_take (i := 7) (v := ?v71) rfl (by kernel_rfl) (by kernel_rfl) (by kernel_rfl) (fun _ _ _ h => h) (Or.inl ⟨by rfl, ?y71⟩) (by assumption) ?r71
        case y71 => (intro W' hW; have kr := HC.out.2.2.1 _ hW.1; go_simp; try with_reducible rfl)
        try simp only [Act.put, List.getElem_toArray, List.getElem_cons_zero, List.getElem_cons_succ, List.setIfInBounds_toArray, List.set_cons_zero, List.set_cons_succ]
        refine wpAnyH_take (i := 8) (v := ?v72) rfl (by kernel_rfl) (by kernel_rfl) (by kernel_rfl) (fun _ _ _ h => h) (Or.inl ⟨by rfl, ?y72⟩) (by assumption) ?r72
        case y72 => (intro W' hW; go_simp; try with_reducible rfl)
        try simp only [Act.put, List.getElem_toArray, List.getElem_cons_zero, List.getElem_cons_succ, List.setIfInBounds_toArray, List.set_cons_zero, List.set_cons_succ]
        refine wpAnyH_done (by kernel_rfl) ?_ _
        obtain ⟨q0, q1, q2⟩ := cells3G hHeld.2
        have HF : Hid _ := hHeld.1
        clear hHeld
        go_wp2
        go_ret
        exact ⟨rfl, HF.out⟩
end Go.Proofs.YtgalgjmhdbncbaaGreat
