import Derived.Test.YtgalgjmhdbncbaaGreatZf33
namespace Go.Proofs.YtgalgjmhdbncbaaGreat
open Go.RowKit

def cellD (D : Nat → Cl) (i : Nat) (c : Cl) (j : Nat) : Cl := if j = i then c else D j
theorem cellD_at (D : Nat → Cl) (i : Nat) (c : Cl) : cellD D i c i = c := if_pos rfl
theorem cellD_ne (D : Nat → Cl) (i j : Nat) (c : Cl) (h : j ≠ i) : cellD D i c j = D j := if_neg h
theorem Dk.cell {D : Nat → Cl} {K : Nat → Ky} {G : List Gv} {top : Nat → Nat} (h : Dk D K G top) (i : Nat) (hi : i < 8) (c : Cl) (k : Ky) (hu : ∀ j, j < 8 → j ≠ i → (D j).st ≠ 0 → (D j).id ≠ c.id) (hold : (D i).st = 0 ∨ (D i).id = c.id) (hok : CkOk c k (top c.id)) (hg : k.given ≤ top c.id) (hth : (K c.id).there = 1 → k.there = 1) (hny : k.there ≠ 1 → k.ret = 0 ∧ top c.id = 0)
    (hkey : (K c.id).there = 1 → c.st = 1 → (D i).st = 1 ∧ (D i).id = c.id ∧ (D i).key = c.key ∧ (D i).alg = c.alg) : Dk (cellD D i c) (setK K c.id k) G top := by
  have hst : c.st ≠ 0 := by have := hok.ok.st; omega
  refine ⟨?_, ?_, ?_, ?_, ?_, ?_⟩
  · intro a b ha hb h1 h2 e
    by_cases ea : a = i <;> by_cases eb : b = i
    · omega
    · subst ea
      rw [cellD_at, cellD_ne _ _ _ _ eb] at e
      rw [cellD_ne _ _ _ _ eb] at h2
      exact absurd e.symm (hu b hb eb h2)
    · subst eb
      rw [cellD_at, cellD_ne _ _ _ _ ea] at e
      rw [cellD_ne _ _ _ _ ea] at h1
      exact absurd e (hu a ha ea h1)
    · rw [cellD_ne _ _ _ _ ea] at h1 e
      rw [cellD_ne _ _ _ _ eb] at h2 e
      exact h.uq a b ha hb h1 h2 e
  · intro j hj h1
    by_cases e : j = i
    · subst e
      rw [cellD_at, setK_at]; exact hok
    · rw [cellD_ne _ _ _ _ e] at h1 ⊢
      rw [setK_ne _ _ _ _ (hu j hj e h1)]
      exact h.ok j hj h1
  · intro id hid h1
    by_cases e : id = c.id
    · exact ⟨i, hi, by rw [cellD_at]; exact hst, by rw [cellD_at]; exact e.symm⟩
    · rw [setK_ne _ _ _ _ e] at h1
      obtain ⟨j, hj, a, b⟩ := h.th id hid h1
      have hji : j ≠ i := by
        rintro rfl
        rcases hold with h0 | h0
        · exact a h0
        · exact e (by rw [← b, h0])
      exact ⟨j, hj, by rw [cellD_ne _ _ _ _ hji]; exact a, by rw [cellD_ne _ _ _ _ hji]; exact b⟩
  · intro id hid
    by_cases e : id = c.id
    · subst e; rw [setK_at]; exact hg
    · rw [setK_ne _ _ _ _ e]; exact h.gt id hid
  · intro id hid h1
    by_cases e : id = c.id
    · subst e
      rw [setK_at] at h1 ⊢
      exact hny h1
    · rw [setK_ne _ _ _ _ e] at h1 ⊢
      exact h.ny id hid h1
  · intro g hg'
    obtain ⟨c', n, a⟩ := h.gv g hg'
    refine ⟨c', n, a.id, ?_, a.ok, a.st, a.ci, a.fix, a.lt, a.z, a.tx, ?_⟩
    · by_cases e : g.id = c.id
      · rw [e, setK_at]; exact hth (by rw [← e]; exact a.there)
      · rw [setK_ne _ _ _ _ e]; exact a.there
    · intro j hj h1 h2
      by_cases e : j = i
      · subst e
        rw [cellD_at] at h1 h2 ⊢
        obtain ⟨b1, b2, b3, b4⟩ := hkey (by rw [h2]; exact a.there) h1
        rw [← b3, ← b4]
        exact a.key j hj b1 (by rw [b2]; exact h2)
      · rw [cellD_ne _ _ _ _ e] at h1 h2 ⊢
        exact a.key j hj h1 h2
theorem Dk.know {D : Nat → Cl} {K : Nat → Ky} {G : List Gv} {top : Nat → Nat} (h : Dk D K G top) (id : Nat) (k : Ky) (hk : ∀ j, j < 8 → (D j).st ≠ 0 → (D j).id = id → CkOk (D j) k (top id)) (hg : k.given ≤ top id) (h1 : k.there = 1 → ∃ j, j < 8 ∧ (D j).st ≠ 0 ∧ (D j).id = id) (h2 : (K id).there = 1 → k.there = 1) (hny : k.there ≠ 1 → k.ret = 0 ∧ top id = 0) : Dk D (setK K id k) G top := by
  refine ⟨h.uq, ?_, ?_, ?_, ?_, ?_⟩
  · intro j hj h0
    by_cases e : (D j).id = id
    · rw [e, setK_at]; exact hk j hj h0 e
    · rw [setK_ne _ _ _ _ e]; exact h.ok j hj h0
  · intro x hx h0
    by_cases e : x = id
    · subst e; rw [setK_at] at h0; exact h1 h0
    · rw [setK_ne _ _ _ _ e] at h0; exact h.th x hx h0
  · intro x hx
    by_cases e : x = id
    · subst e; rw [setK_at]; exact hg
    · rw [setK_ne _ _ _ _ e]; exact h.gt x hx
  · intro x hx h0
    by_cases e : x = id
    · subst e; rw [setK_at] at h0 ⊢; exact hny h0
    · rw [setK_ne _ _ _ _ e] at h0 ⊢; exact h.ny x hx h0
  · intro g hg'
    obtain ⟨c', n, a⟩ := h.gv g hg'
    refine ⟨c', n, a.id, ?_, a.ok, a.st, a.ci, a.fix, a.lt, a.z, a.tx, a.key⟩
    by_cases e : g.id = id
    · rw [e, setK_at]; exact h2 (by rw [← e]; exact a.there)
    · rw [setK_ne _ _ _ _ e]; exact a.there
theorem Dk.give {D : Nat → Cl} {K : Nat → Ky} {G : List Gv} {top : Nat → Nat} (h : Dk D K G top) (i : Nat) (hi : i < 8) (hst : (D i).st = 1) (n : Nat) (hn : n < (D i).res) (ht : top (D i).id ≤ n) (p : ByteArray) (hp : p.size ≤ 20) (hth : (K (D i).id).there = 1) :
    Dk D (setK K (D i).id { K (D i).id with given := (K (D i).id).given + 1 }) (G ++ [⟨(D i).id, sealR ⟨D i, n⟩ wT p, p⟩]) (setN top (D i).id (n + 1)) := by
  have ck := h.ok i hi (by omega)
  have hone : ∀ j, j < 8 → (D j).st ≠ 0 → (D j).id = (D i).id → j = i := fun j hj h0 e => h.uq j i hj hi h0 (by omega) e
  refine ⟨h.uq, ?_, ?_, ?_, ?_, ?_⟩
  · intro j hj h0
    by_cases e : (D j).id = (D i).id
    · have := hone j hj h0 e
      subst this
      rw [setK_at, setN_at]
      exact ⟨ck.ok, ck.id, ck.fix, ck.most, ck.there, ck.seals, hn, ck.r1, ck.r0⟩
    · rw [setK_ne _ _ _ _ e, setN_ne _ _ _ _ e]; exact h.ok j hj h0
  · intro x hx h0
    by_cases e : x = (D i).id
    · exact ⟨i, hi, by omega, e.symm⟩
    · rw [setK_ne _ _ _ _ e] at h0; exact h.th x hx h0
  · intro x hx
    by_cases e : x = (D i).id
    · have := h.gt x hx
      subst e
      rw [setK_at, setN_at]
      dsimp only
      omega
    · rw [setK_ne _ _ _ _ e, setN_ne _ _ _ _ e]; exact h.gt x hx
  · intro x hx h0
    by_cases e : x = (D i).id
    · subst e
      rw [setK_at] at h0
      exact absurd hth h0
    · rw [setK_ne _ _ _ _ e] at h0 ⊢
      rw [setN_ne _ _ _ _ e]
      exact h.ny x hx h0
  · intro g hg'
    rw [List.mem_append, List.mem_singleton] at hg'
    rcases hg' with hg' | rfl
    · obtain ⟨c', m, a⟩ := h.gv g hg'
      refine ⟨c', m, a.id, ?_, a.ok, a.st, a.ci, a.fix, ?_, a.z, a.tx, a.key⟩
      · by_cases e : g.id = (D i).id
        · rw [e, setK_at]; exact hth
        · rw [setK_ne _ _ _ _ e]; exact a.there
      · have := a.lt
        by_cases e : g.id = (D i).id
        · rw [e] at this ⊢
          rw [setN_at]; omega
        · rw [setN_ne _ _ _ _ e]; exact this
    · refine ⟨D i, n, ck.id, ?_, ck.ok, hst, rfl, ck.fix, ?_, hp, rfl, ?_⟩
      · rw [setK_at]; exact hth
      · rw [setN_at]; omega
      · intro j hj h1 h2
        have := hone j hj (by omega) h2
        subst this
        exact ⟨rfl, rfl⟩
theorem RI.ck {S : Sto} {t : Nat} {H : Nat → Hd} {K : Nat → Ky} {G : List Gv} {top : Nat → Nat} (h : RI S t H K G false top) {id : Nat} {j : Nat} (hj : j < 8) (hh : hit H id j) : CkOk (H j).c (K id) (top id) ∧ (H j).c.id = id ∧ (K id).there = 1 := by
  have L := h.lv rfl
  have e := L.eq j hj
  have e2 : (H j).c.id = id := by have := hh.2; omega
  have ck := h.dk.ok j hj (by show (ofC (S.cell j)).st ≠ 0; rw [← e]; exact hh.1)
  rw [← e, e2] at ck
  refine ⟨ck, e2, ?_⟩
  have h1 := ck.there
  have h2 := (L.yn id (by rw [← e2]; exact ck.id)).1
  omega
theorem RI.absent {S : Sto} {t : Nat} {H : Nat → Hd} {K : Nat → Ky} {G : List Gv} {top : Nat → Nat} (h : RI S t H K G false top) {id : Nat} (hid : id < 4) (hn : ∀ j, j < 8 → ¬ hit H id j) : (K id).there = 0 := by
  have L := h.lv rfl
  have h2 := (L.yn id hid).1
  rcases Nat.eq_zero_or_pos (K id).there with h0 | h0
  · exact h0
  · obtain ⟨j, hj, a, b⟩ := h.dk.th id hid (by omega)
    rw [← L.eq j hj] at a b
    exact absurd ⟨a, by rw [b]⟩ (hn j hj)
theorem RI.live {S : Sto} {t : Nat} {H : Nat → Hd} {K : Nat → Ky} {G : List Gv} {top : Nat → Nat} (h : RI S t H K G false top) {id : Nat} (hid : id < 4) {i : Nat} {c : Int} (hl : liveP H id i c) :
    (c = 11 ∧ (K id).there = 0) ∨ (c = 14 ∧ (K id).there = 1 ∧ (K id).ret = 1) ∨ (c = 0 ∧ (K id).there = 1 ∧ (K id).ret = 0 ∧ i < 8 ∧ (H i).c.st = 1 ∧ (H i).c.id = id ∧ CkOk (H i).c (K id) (top id)) := by
  have L := h.lv rfl
  have h2 := (L.yn id hid).2
  rcases hl with ⟨i8, hh, hne, _, rfl⟩ | ⟨_, ⟨q, q8, hq, _, h2'⟩, rfl⟩ | ⟨_, hn, rfl⟩
  · obtain ⟨ck, e, ht⟩ := h.ck i8 hh
    have hst := ck.ok.st
    have hr : (K id).ret = 0 := by
      rcases Nat.eq_zero_or_pos (K id).ret with h0 | h0
      · exact h0
      · have := ck.r1 (by omega)
        omega
    exact .inr (.inr ⟨rfl, ht, hr, i8, ck.r0 hr, e, ck⟩)
  · obtain ⟨ck, e, ht⟩ := h.ck q8 hq
    refine .inr (.inl ⟨rfl, ht, ?_⟩)
    rcases Nat.eq_zero_or_pos (K id).ret with h0 | h0
    · have := ck.r0 h0
      omega
    · omega
  · exact .inl ⟨rfl, h.absent hid hn⟩
theorem hit_nat {H : Nat → Hd} {id j : Nat} (h : hit H id j) : (H j).c.id = id := by have := h.2; omega
theorem RI.down {S : Sto} {t : Nat} {H : Nat → Hd} {K : Nat → Ky} {G : List Gv} {top : Nat → Nat} (h : RI S t H K G false top) (i : Nat) (hi : i < 8) (c : Cl) (hc : ClOk c) (K' : Nat → Ky) (h1 : Dk (cellD (fun j => ofC (S.cell j)) i c) K' G top) (h2 : Dk (fun j => ofC (S.cell j)) K' G top) : RI { wroteM S i (cellT c) with tab := none } t H K' G true top := by
  have hle := h.le
  obtain ⟨w1, w2, w3, w4⟩ := wrote_cell S i c hi hc
  refine ⟨fun j hj => h.cs.wrote i c hi hc j hj, ?_, fun e => by simp at e, fun _ => rfl, ?_, h.tk, h.cr⟩
  · show Dk (fun j => ofC ((wroteM S i (cellT c)).cell j)) K' G top
    rcases wrote_ofC S i c hi hc with e | ⟨_, e⟩
    · rw [show (fun j => ofC ((wroteM S i (cellT c)).cell j)) = cellD (fun j => ofC (S.cell j)) i c from funext e]; exact h1
    · rw [show (fun j => ofC ((wroteM S i (cellT c)).cell j)) = fun j => ofC (S.cell j) from funext e]; exact h2
  · show (wroteM S i (cellT c)).left ≤ _
    omega
theorem RI.wrote {S : Sto} {t : Nat} {H : Nat → Hd} {K : Nat → Ky} {G : List Gv} {top : Nat → Nat} (h : RI S t H K G false top) (hl : S.left ≠ 1) (i : Nat) (hi : i < 8) (c : Cl) (n : Nat) (hc : ClOk c) (hn : top c.id ≤ n ∧ n ≤ c.res) (K' : Nat → Ky) (h1 : Dk (cellD (fun j => ofC (S.cell j)) i c) K' G top) (hyn : ∀ id, id < 4 → (K' id).there ≤ 1 ∧ (K' id).ret ≤ 1) (H' : Nat → Hd) (hH : H' i = ⟨c, n⟩) (hH2 : ∀ j, j ≠ i → H' j = H j) : RI (wroteM S i (cellT c)) t H' K' G false top := by
  have L := h.lv rfl
  have hle := h.le
  obtain ⟨w1, w2, w3, w4⟩ := wrote_cell S i c hi hc
  have he : ∀ j, ofC ((wroteM S i (cellT c)).cell j) = if j = i then c else ofC (S.cell j) := by
    rcases wrote_ofC S i c hi hc with e | ⟨e, _⟩
    · exact e
    · exact absurd e hl
  have hst : c.st ≠ 0 := by have := hc.st; omega
  refine ⟨h.cs.wrote i c hi hc, ?_, fun _ => ⟨by rw [w2]; exact L.tab, ?_, ?_, ?_, hyn⟩, fun e => by simp at e, by omega, ?_, ?_⟩
  · rw [show (fun j => ofC ((wroteM S i (cellT c)).cell j)) = cellD (fun j => ofC (S.cell j)) i c from funext he]; exact h1
  · intro j hj
    rw [he]
    by_cases e : j = i
    · subst e; rw [if_pos rfl, hH]
    · rw [if_neg e, hH2 j e]; exact L.eq j hj
  · intro j hj h0
    by_cases e : j = i
    · subst e; rw [hH]; exact hn
    · rw [hH2 j e] at h0 ⊢; exact L.ct j hj h0
  · intro j hj h0
    by_cases e : j = i
    · subst e; rw [hH] at h0; exact absurd h0 hst
    · rw [hH2 j e] at h0 ⊢; exact L.z j hj h0
  · intro j hj h0
    by_cases e : j = i
    · subst e; rw [hH]; exact hc
    · rw [hH2 j e] at h0 ⊢; exact h.tk j hj h0
  · intro j hj h0
    by_cases e : j = i
    · subst e
      rw [hH]
      have := hc.res
      obtain ⟨⟨_, q⟩, _⟩ := hc.cfg
      dsimp only
      omega
    · rw [hH2 j e] at h0 ⊢; exact h.cr j hj h0
theorem RI.full {S : Sto} {t : Nat} {H : Nat → Hd} {K : Nat → Ky} {G : List Gv} {top : Nat → Nat} (h : RI S t H K G false top) (hf : ∀ j, j < 8 → (H j).c.st ≠ 0) : False := by
  have L := h.lv rfl
  have key : ∀ j, j < 8 → (H j).c.id < 4 ∧ ∀ i, i < 8 → (H i).c.id = (H j).c.id → i = j := by
    intro j hj
    refine ⟨(h.ck hj ⟨hf j hj, rfl⟩).1.id, fun i hi e => ?_⟩
    have a := hf i hi
    have b := hf j hj
    rw [L.eq i hi] at a e
    rw [L.eq j hj] at b e
    exact h.dk.uq i j hi hj a b e
  have k0 := key 0 (by omega)
  have k1 := key 1 (by omega)
  have k2 := key 2 (by omega)
  have k3 := key 3 (by omega)
  have k4 := key 4 (by omega)
  have n10 : (H 1).c.id ≠ (H 0).c.id := fun e => by have := k0.2 1 (by omega) e; omega
  have n20 : (H 2).c.id ≠ (H 0).c.id := fun e => by have := k0.2 2 (by omega) e; omega
  have n30 : (H 3).c.id ≠ (H 0).c.id := fun e => by have := k0.2 3 (by omega) e; omega
  have n40 : (H 4).c.id ≠ (H 0).c.id := fun e => by have := k0.2 4 (by omega) e; omega
  have n21 : (H 2).c.id ≠ (H 1).c.id := fun e => by have := k1.2 2 (by omega) e; omega
  have n31 : (H 3).c.id ≠ (H 1).c.id := fun e => by have := k1.2 3 (by omega) e; omega
  have n41 : (H 4).c.id ≠ (H 1).c.id := fun e => by have := k1.2 4 (by omega) e; omega
  have n32 : (H 3).c.id ≠ (H 2).c.id := fun e => by have := k2.2 3 (by omega) e; omega
  have n42 : (H 4).c.id ≠ (H 2).c.id := fun e => by have := k2.2 4 (by omega) e; omega
  have n43 : (H 4).c.id ≠ (H 3).c.id := fun e => by have := k3.2 4 (by omega) e; omega
  omega
theorem fixT_size (id : Nat) : (fixT id).size = 4 := rfl
theorem RI.create {S S' : Sto} {t : Nat} {H H' : Nat → Hd} {K : Nat → Ky} {G : List Gv} {top : Nat → Nat} (h : RI S t H K G false top) {id : Nat} (hid : id < 4) {key : ByteArray} {s a : Nat} (hk : KeyLen key.size) (hs : 1 ≤ s ∧ s ≤ 12) (ha : 1 ≤ a ∧ a ≤ 5) {e : Int} (hP : createP t S H id key (fixT id) s a 20 e S' H') :
    ((K id).there = 1 ∧ e = 12 ∧ S' = S ∧ H' = H) ∨ ((K id).there = 0 ∧ e = 8 ∧ S.left = 1 ∧ RI S' t H' (setK K id ⟨2, (K id).ret, s, (K id).given⟩) G true top) ∨
    ((K id).there = 0 ∧ e = 0 ∧ S'.left = S.left - 1 ∧ RI S' t H' (setK K id ⟨1, 0, s, 0⟩) G false top ∧ ∃ i, i < 8 ∧ (H' i).c.st = 1 ∧ (H' i).c.id = id ∧ (H' i).c.seals = s ∧ (H' i).ctr = 0) := by
  have L := h.lv rfl
  rcases hP with ⟨hn, _⟩ | ⟨_, ⟨hn, _⟩ | ⟨_, ⟨hn, _⟩ | ⟨A, a1, a2, a3, ⟨⟨i, hi, hh⟩, rfl, rfl, rfl⟩ | ⟨hno, ⟨hf, _⟩ | ⟨i, hi, h0, hm, hput⟩⟩⟩⟩⟩
  · exact absurd L.tab hn
  · exfalso
    apply hn
    exact ⟨by omega, by omega, fixT_size id, ⟨by omega, by omega⟩, ⟨by omega, by omega⟩, ⟨by omega, by omega⟩⟩
  · exact absurd hk hn
  · exact .inl ⟨(h.ck hi hh).2.2, rfl, rfl, rfl⟩
  · exact (h.full hf).elim
  · have ht := h.absent hid hno
    obtain ⟨n1, n2⟩ := h.dk.ny id hid (by omega)
    have hgt := h.dk.gt id hid
    have hD0 : (ofC (S.cell i)).st = 0 := by rw [← L.eq i hi]; exact h0
    have hu : ∀ j, j < 8 → j ≠ i → (ofC (S.cell j)).st ≠ 0 → (ofC (S.cell j)).id ≠ id := by
      intro j hj _ hs0 e
      rw [← L.eq j hj] at hs0 e
      exact hno j hj ⟨hs0, by rw [e]⟩
    have hcl : ClOk ⟨1, A, id, fixT id, s, a, 20, 0, key⟩ := ⟨.inl rfl, ⟨a1, a2⟩, by show id ≤ 65535; omega, fixT_size id, ⟨⟨by show (1 : Int) ≤ s; omega, by show (s : Int) ≤ 65535; omega⟩, ⟨by show (1 : Int) ≤ a; omega, by show (a : Int) ≤ 100; omega⟩, ⟨by show (0 : Int) ≤ (20 : Nat); omega, by show ((20 : Nat) : Int) ≤ 200; omega⟩⟩, Nat.zero_le _, by rw [a3]; rfl⟩
    have hput' : putP S H i ⟨1, A, id, fixT id, s, a, 20, 0, key⟩ e S' H' := hput
    have mk : ∀ k : Ky, k.there ≠ 0 → k.seals = s → k.ret = 0 → k.given ≤ top id → Dk (cellD (fun j => ofC (S.cell j)) i ⟨1, A, id, fixT id, s, a, 20, 0, key⟩) (setK K id k) G top := by
      intro k k1 k2 k3 k4
      refine h.dk.cell i hi ⟨1, A, id, fixT id, s, a, 20, 0, key⟩ k hu (.inl hD0) ⟨hcl, hid, rfl, rfl, k1, k2, by show top id ≤ 0; omega, fun e => by omega, fun _ => rfl⟩ k4 (fun e => ?_) (fun _ => ⟨k3, n2⟩) (fun e => ?_)
      · dsimp only at e; omega
      · dsimp only at e; omega
    rcases hput' with ⟨hl, rfl, rfl, rfl⟩ | ⟨hl, rfl, rfl, rfl⟩
    · refine .inr (.inl ⟨ht, rfl, hl, h.down i hi _ hcl _ (mk ⟨2, (K id).ret, s, (K id).given⟩ (by show (2 : Nat) ≠ 0; decide) rfl n1 hgt) ?_⟩)
      refine h.dk.know id _ (fun j hj hs0 e => ?_) hgt (fun e => ?_) (fun e => ?_) (fun _ => ⟨n1, n2⟩)
      · exfalso
        rw [← L.eq j hj] at hs0 e
        exact hno j hj ⟨hs0, by rw [e]⟩
      · simp at e
      · omega
    · refine .inr (.inr ⟨ht, rfl, (wrote_cell S i _ hi hcl).1, h.wrote hl i hi _ 0 hcl ⟨by show top id ≤ 0; omega, Nat.zero_le _⟩ _ (mk ⟨1, 0, s, 0⟩ (by show (1 : Nat) ≠ 0; decide) rfl rfl (by show 0 ≤ top id; omega)) ?_ _ ?_ ?_, i, hi, ?_⟩)
      · intro x hx
        by_cases e : x = id
        · subst e; rw [setK_at]; exact ⟨Nat.le_refl _, by show 0 ≤ 1; omega⟩
        · rw [setK_ne _ _ _ _ e]; exact L.yn x hx
      · unfold upd
        rw [if_pos rfl, L.z i hi h0]
      · intro j hj
        unfold upd
        rw [if_neg hj]
      · unfold upd
        rw [if_pos rfl, L.z i hi h0]
        exact ⟨rfl, rfl, rfl, rfl⟩
theorem KeyUpd (K : Nat → Ky) (id : Nat) : setK K id (K id) = K := by
  funext j
  unfold setK
  split
  · rename_i e; rw [e]
  · rfl
theorem RI.retire {S S' : Sto} {t : Nat} {H H' : Nat → Hd} {K : Nat → Ky} {G : List Gv} {top : Nat → Nat} (h : RI S t H K G false top) {id : Nat} (hid : id < 4) {e : Int} (hP : retireP t S H id e S' H') :
    ((K id).there = 0 ∧ e = 11 ∧ S' = S ∧ H' = H) ∨ ((K id).there = 1 ∧ (K id).ret = 1 ∧ e = 14 ∧ S' = S ∧ H' = H) ∨
    ((K id).there = 1 ∧ (K id).ret = 0 ∧ e = 8 ∧ RI S' t H' (setK K id { K id with ret := 2 }) G true top) ∨ ((K id).there = 1 ∧ (K id).ret = 0 ∧ e = 0 ∧ RI S' t H' (setK K id { K id with ret := 1 }) G false top) := by
  have L := h.lv rfl
  rcases hP with ⟨hn, _⟩ | ⟨_, i, c, hl, hc⟩
  · exact absurd L.tab hn
  · rcases h.live hid hl with ⟨rfl, h1⟩ | ⟨rfl, h1, h2⟩ | ⟨rfl, h1, h2, hi, hst, hci, ck⟩
    · rcases hc with ⟨_, rfl, rfl, rfl⟩ | ⟨h0, _⟩
      · exact .inl ⟨h1, rfl, rfl, rfl⟩
      · simp at h0
    · rcases hc with ⟨_, rfl, rfl, rfl⟩ | ⟨h0, _⟩
      · exact .inr (.inl ⟨h1, h2, rfl, rfl, rfl⟩)
      · simp at h0
    · rcases hc with ⟨h0, _⟩ | ⟨_, hput⟩
      · exact absurd rfl h0
      · have hcl := ck.ok.retire
        have hgt := h.dk.gt id hid
        have eD := L.eq i hi
        have hu : ∀ j, j < 8 → j ≠ i → (ofC (S.cell j)).st ≠ 0 → (ofC (S.cell j)).id ≠ (H i).c.retiring.id := by
          intro j hj hne hs0 e
          refine hne (h.dk.uq j i hj hi hs0 ?_ ?_)
          · show (ofC (S.cell i)).st ≠ 0
            rw [← eD]; omega
          · show (ofC (S.cell j)).id = (ofC (S.cell i)).id
            rw [e, ← eD]; rfl
        have hid2 : (H i).c.retiring.id = id := hci
        have mk : ∀ r : Nat, r ≠ 0 → Dk (cellD (fun j => ofC (S.cell j)) i (H i).c.retiring) (setK K id { K id with ret := r }) G top := by
          intro r hr
          have := h.dk.cell i hi (H i).c.retiring { K id with ret := r } hu (.inr (by show (ofC (S.cell i)).id = _; rw [← eD]; rfl)) (by
            rw [hid2]
            exact ⟨hcl, ck.id, ck.fix, ck.most, ck.there, ck.seals, ck.top, fun _ => rfl, fun e => absurd e hr⟩) (by rw [hid2]; exact hgt) (by rw [hid2]; exact fun e => e) (fun e => absurd h1 e) (fun _ e => by simp [Cl.retiring] at e)
          rw [hid2] at this
          exact this
        rcases hput with ⟨hl2, rfl, rfl, rfl⟩ | ⟨hl2, rfl, rfl, rfl⟩
        · refine .inr (.inr (.inl ⟨h1, h2, rfl, h.down i hi _ hcl _ (mk 2 (by decide)) ?_⟩))
          refine h.dk.know id _ (fun j hj hs0 e => ?_) hgt (fun _ => h.dk.th id hid h1) (fun e => e) (fun e => absurd h1 e)
          have ckj := h.dk.ok j hj hs0
          rw [e] at ckj
          exact ⟨ckj.ok, ckj.id, ckj.fix, ckj.most, ckj.there, ckj.seals, ckj.top, fun e => by simp at e, fun e => by simp at e⟩
        · refine .inr (.inr (.inr ⟨h1, h2, rfl, h.wrote hl2 i hi _ (H i).ctr hcl ?_ _ (mk 1 (by decide)) ?_ _ ?_ ?_⟩))
          · have := L.ct i hi (by omega)
            exact this
          · intro x hx
            by_cases e : x = id
            · subst e; rw [setK_at]; exact ⟨(L.yn x hx).1, Nat.le_refl _⟩
            · rw [setK_ne _ _ _ _ e]; exact L.yn x hx
          · unfold upd
            rw [if_pos rfl]
          · intro j hj
            unfold upd
            rw [if_neg hj]
theorem numT_inj (a b : Nat) (ha : a < 65536) (hb : b < 65536) (h : numT a 8 = numT b 8) : a = b := by
  have e : ∀ v j, j < 8 → sf (numT v 8) j = numF v 8 j := fun v j hj => sf_str 8 _ j hj
  have e7 : numF a 8 7 = numF b 8 7 := by rw [← e a 7 (by omega), ← e b 7 (by omega), h]
  have e6 : numF a 8 6 = numF b 8 6 := by rw [← e a 6 (by omega), ← e b 6 (by omega), h]
  simp only [numF, Nat.pow_zero, Nat.div_one, show 8 - 1 - 6 = 1 from rfl, show 8 - 1 - 7 = 0 from rfl, Nat.pow_one] at e7 e6
  have f7 := congrArg UInt8.toNat e7
  have f6 := congrArg UInt8.toNat e6
  rw [UInt8.toNat_ofNat', UInt8.toNat_ofNat'] at f7 f6
  omega
theorem cat_inj (x a b : ByteArray) (h : x ++ a = x ++ b) (hz : a.size = b.size) : a = b := by
  apply bytes_ext hz
  intro j hj
  have e : sf (x ++ a) (x.size + j) = sf (x ++ b) (x.size + j) := by rw [h]
  rw [sf_append, sf_append, if_neg (by omega), if_neg (by omega), show x.size + j - x.size = j by omega] at e
  exact e
theorem seal_isrec (c : Cl) (n : Nat) (m p : ByteArray) (hc : ClOk c) (hp : p.size ≤ 200) : IsRec c.alg c.id (hnonT ⟨c, n⟩) (maskT c.key (firstF c.key (hnonT ⟨c, n⟩)) p) (str 16 (tagF c.key (firstF c.key (hnonT ⟨c, n⟩)) (headT c.alg c.id (hnonT ⟨c, n⟩) p ++ m) (maskT c.key (firstF c.key (hnonT ⟨c, n⟩)) p))) := by
  refine ⟨hc.alg.1, hc.alg.2, hc.id, ?_, by rw [maskT_size]; exact hp, str_size _ _⟩
  unfold hnonT
  rw [ByteArray.size_append, numT_size]
  show c.fix.size + 8 = 12
  rw [hc.fix]
theorem RI.seal {S S' : Sto} {t : Nat} {H H' : Nat → Hd} {K : Nat → Ky} {G : List Gv} {top : Nat → Nat} (h : RI S t H K G false top) {id : Nat} (hid : id < 4) {p s : ByteArray} (hp : p.size ≤ 20) {e : Int} (hP : sealP t S H id wT p s e S' H') :
    ((K id).there = 0 ∧ e = 11 ∧ S' = S ∧ H' = H) ∨ ((K id).there = 1 ∧ (K id).ret = 1 ∧ e = 14 ∧ S' = S ∧ H' = H) ∨
    ((K id).there = 1 ∧ (K id).ret = 0 ∧ e = 8 ∧ s = ⟨#[]⟩ ∧ S.left = 1 ∧ RI S' t H' K G true top) ∨
    ((K id).there = 1 ∧ (K id).ret = 0 ∧ e = 15 ∧ s = ⟨#[]⟩ ∧ S' = S ∧ H' = H ∧ ∃ i, i < 8 ∧ hit H id i ∧ (H i).ctr = (K id).seals) ∨
    ((K id).there = 1 ∧ (K id).ret = 0 ∧ e = 0 ∧ (K id).given < (K id).seals ∧ S'.left ≤ S.left ∧ ∃ c n, s = sealR ⟨c, n⟩ wT p ∧ ClOk c ∧ c.id = id ∧ (∀ g ∈ G, g.id = id → ∃ c' m, ClOk c' ∧ g.txt = sealR ⟨c', m⟩ wT g.plain ∧ g.plain.size ≤ 20 ∧ hnonT ⟨c', m⟩ ≠ hnonT ⟨c, n⟩) ∧
      RI S' t H' (setK K id { K id with given := (K id).given + 1 }) (G ++ [⟨id, s, p⟩]) false (setN top id (n + 1)) ∧ ∀ i, i < 8 → hit H id i → (H i).ctr = n ∧ hit H' id i ∧ (H' i).ctr = n + 1) := by
  have L := h.lv rfl
  rcases hP with ⟨hn, _⟩ | ⟨_, i, c, hl, hc⟩
  · exact absurd L.tab hn
  · rcases h.live hid hl with ⟨rfl, h1⟩ | ⟨rfl, h1, h2⟩ | ⟨rfl, h1, h2, hi, hst, hci, ck⟩
    · rcases hc with ⟨_, _, rfl, rfl, rfl⟩ | ⟨h0, _⟩
      · exact .inl ⟨h1, rfl, rfl, rfl⟩
      · simp at h0
    · rcases hc with ⟨_, _, rfl, rfl, rfl⟩ | ⟨h0, _⟩
      · exact .inr (.inl ⟨h1, h2, rfl, rfl, rfl⟩)
      · simp at h0
    · have hh : hit H id i := ⟨by omega, by rw [hci]⟩
      have hone : ∀ j, j < 8 → hit H id j → j = i := by
        intro j hj hj2
        have a := hj2.1
        have b := hit_nat hj2
        rw [L.eq j hj] at a b
        refine h.dk.uq j i hj hi a ?_ ?_
        · show (ofC (S.cell i)).st ≠ 0
          rw [← L.eq i hi]; omega
        · show (ofC (S.cell j)).id = (ofC (S.cell i)).id
          rw [b, ← L.eq i hi, hci]
      obtain ⟨ct1, ct2⟩ := L.ct i hi (by omega)
      rw [hci] at ct1
      have hres := ck.ok.res
      obtain ⟨⟨_, q2⟩, _⟩ := ck.ok.cfg
      have hgt := h.dk.gt id hid
      have hsl := ck.seals
      have eD := L.eq i hi
      have hno : ¬ (180 < wT.size ∨ (H i).c.most < p.size) := by
        rw [ck.most]
        have : wT.size = 4 := rfl
        omega
      have hnon : ∀ cc : Cl, cc.fix = fixT id → ∀ g ∈ G, g.id = id → ∃ c' m, ClOk c' ∧ g.txt = sealR ⟨c', m⟩ wT g.plain ∧ g.plain.size ≤ 20 ∧ hnonT ⟨c', m⟩ ≠ hnonT ⟨cc, (H i).ctr⟩ := by
        intro cc hcc g hg hgi
        obtain ⟨c', m, a⟩ := h.dk.gv g hg
        refine ⟨c', m, a.ok, a.tx, a.z, fun e => ?_⟩
        have hm := a.lt
        rw [hgi] at hm
        unfold hnonT at e
        dsimp only at e
        rw [a.fix, hgi, hcc] at e
        have := numT_inj _ _ (by omega) (by omega) (cat_inj _ _ _ e (by rw [numT_size, numT_size]))
        omega
      rcases hc with ⟨h0, _⟩ | ⟨_, ⟨hlg, _⟩ | ⟨_, ⟨hsp, f1, f2, f3, f4⟩ | ⟨hsp, ⟨hre, f1, f2, f3, f4⟩ | ⟨hre, ⟨hl1, f1, f2, f3, f4⟩ | ⟨hl1, f1, f2, f3, f4⟩⟩⟩⟩⟩
      · exact absurd rfl h0
      · exact absurd hlg hno
      · exact .inr (.inr (.inr (.inl ⟨h1, h2, f2, f1, f3, f4, i, hi, hh, by rw [hsp, hsl]⟩)))
      · rw [f1, f2, f3, f4]
        have hg1 : H i = ⟨(H i).c, (H i).ctr⟩ := rfl
        refine .inr (.inr (.inr (.inr ⟨h1, h2, rfl, by omega, Nat.le_refl _, (H i).c, (H i).ctr, rfl, ck.ok, hci, hnon _ (by rw [ck.fix, hci]), ?_, ?_⟩)))
        · have dk := h.dk.give i hi (by show (ofC (S.cell i)).st = 1; rw [← eD]; exact hst) (H i).ctr (by show _ < (ofC (S.cell i)).res; rw [← eD]; omega) (by show top (ofC (S.cell i)).id ≤ _; rw [← eD, hci]; exact ct1) p hp (by show (K (ofC (S.cell i)).id).there = 1; rw [← eD, hci]; exact h1)
          dsimp only at dk
          rw [← eD, hci] at dk
          refine ⟨h.cs, dk, fun _ => ⟨L.tab, ?_, ?_, ?_, ?_⟩, fun e => by simp at e, h.le, ?_, ?_⟩
          · intro j hj
            unfold bump
            by_cases e : j = i
            · subst e; rw [if_pos rfl]; exact L.eq j hj
            · rw [if_neg e]; exact L.eq j hj
          · intro j hj h0
            unfold bump at h0 ⊢
            by_cases e : j = i
            · subst e
              rw [if_pos rfl]
              dsimp only
              rw [hci, setN_at]
              omega
            · rw [if_neg e] at h0 ⊢
              have : (H j).c.id ≠ id := fun e2 => e (hone j hj ⟨h0, by rw [e2]⟩)
              rw [setN_ne _ _ _ _ this]
              exact L.ct j hj h0
          · intro j hj h0
            unfold bump at h0 ⊢
            by_cases e : j = i
            · subst e; rw [if_pos rfl] at h0; dsimp only at h0; omega
            · rw [if_neg e] at h0 ⊢; exact L.z j hj h0
          · intro x hx
            by_cases e : x = id
            · subst e; rw [setK_at]; exact L.yn x hx
            · rw [setK_ne _ _ _ _ e]; exact L.yn x hx
          · intro j hj h0
            unfold bump at h0 ⊢
            by_cases e : j = i
            · subst e; rw [if_pos rfl]; exact ck.ok
            · rw [if_neg e] at h0 ⊢; exact h.tk j hj h0
          · intro j hj h0
            unfold bump at h0 ⊢
            by_cases e : j = i
            · subst e; rw [if_pos rfl]; dsimp only; omega
            · rw [if_neg e] at h0 ⊢; exact h.cr j hj h0
        · intro j hj hj2
          have := hone j hj hj2
          subst this
          unfold hit bump
          rw [if_pos rfl]
          exact ⟨rfl, hh, rfl⟩
      · rw [f1, f2, f3, f4]
        refine .inr (.inr (.inl ⟨h1, h2, rfl, rfl, hl1, ?_⟩))
        have hcl := ck.ok.reserve
        have hid2 : (H i).c.reserving.id = id := hci
        refine h.down i hi _ hcl K ?_ h.dk
        have := h.dk.cell i hi (H i).c.reserving (K id) (by
          intro j hj hne hs0 e
          refine hne (h.dk.uq j i hj hi hs0 ?_ ?_)
          · show (ofC (S.cell i)).st ≠ 0
            rw [← eD]; omega
          · show (ofC (S.cell j)).id = (ofC (S.cell i)).id
            rw [e, ← eD]; rfl) (.inr (by show (ofC (S.cell i)).id = _; rw [← eD]; rfl)) (by
          rw [hid2]
          exact ⟨hcl, ck.id, ck.fix, ck.most, ck.there, ck.seals, by show top id ≤ min _ _; omega, ck.r1, ck.r0⟩) (by rw [hid2]; exact hgt) (by rw [hid2]; exact fun e => e) (fun e => absurd h1 e) (fun _ _ => by
          show (ofC (S.cell i)).st = 1 ∧ (ofC (S.cell i)).id = _ ∧ (ofC (S.cell i)).key = _ ∧ (ofC (S.cell i)).alg = _
          rw [← eD]
          exact ⟨hst, rfl, rfl, rfl⟩)
        rw [hid2, KeyUpd] at this
        exact this
      · rw [f1, f2, f3, f4]
        have hcl := ck.ok.reserve
        have hid2 : (H i).c.reserving.id = id := hci
        have hah : (H i).c.ahead ≥ 1 := by
          obtain ⟨_, ⟨q3, _⟩, _⟩ := ck.ok.cfg
          omega
        have hr2 : (H i).ctr < (H i).c.reserving.res := by
          show _ < min _ _
          omega
        have dk1 : Dk (cellD (fun j => ofC (S.cell j)) i (H i).c.reserving) K G top := by
          have := h.dk.cell i hi (H i).c.reserving (K id) (by
            intro j hj hne hs0 e
            refine hne (h.dk.uq j i hj hi hs0 ?_ ?_)
            · show (ofC (S.cell i)).st ≠ 0
              rw [← eD]; omega
            · show (ofC (S.cell j)).id = (ofC (S.cell i)).id
              rw [e, ← eD]; rfl) (.inr (by show (ofC (S.cell i)).id = _; rw [← eD]; rfl)) (by
            rw [hid2]
            exact ⟨hcl, ck.id, ck.fix, ck.most, ck.there, ck.seals, by show top id ≤ min _ _; omega, ck.r1, ck.r0⟩) (by rw [hid2]; exact hgt) (by rw [hid2]; exact fun e => e) (fun e => absurd h1 e) (fun _ _ => by
            show (ofC (S.cell i)).st = 1 ∧ (ofC (S.cell i)).id = _ ∧ (ofC (S.cell i)).key = _ ∧ (ofC (S.cell i)).alg = _
            rw [← eD]
            exact ⟨hst, rfl, rfl, rfl⟩)
          rw [hid2, KeyUpd] at this
          exact this
        have hsR : sealR ⟨(H i).c.reserving, (H i).ctr⟩ wT p = sealR (H i) wT p := rfl
        have dk2 := dk1.give i hi (by rw [cellD_at]; exact hst) (H i).ctr (by rw [cellD_at]; exact hr2) (by rw [cellD_at, hid2]; exact ct1) p hp (by rw [cellD_at, hid2]; exact h1)
        rw [cellD_at, hid2, hsR] at dk2
        have hRI := h.wrote hl1 i hi (H i).c.reserving (H i).ctr hcl ⟨by rw [hid2]; exact ct1, by omega⟩ K dk1 L.yn (upd H i (H i).c.reserving) (by unfold upd; rw [if_pos rfl]) (fun j hj => by unfold upd; rw [if_neg hj])
        have he : ∀ j, ofC ((wroteM S i (cellT (H i).c.reserving)).cell j) = if j = i then (H i).c.reserving else ofC (S.cell j) := by
          rcases wrote_ofC S i _ hi hcl with e | ⟨e, _⟩
          · exact e
          · exact absurd e hl1
        have L2 := hRI.lv rfl
        have hb : ∀ j, bump (upd H i (H i).c.reserving) i j = if j = i then ⟨(H i).c.reserving, (H i).ctr + 1⟩ else H j := by
          intro j
          unfold bump upd
          by_cases e : j = i
          · rw [if_pos e, if_pos e, if_pos rfl]
          · rw [if_neg e, if_neg e, if_neg e]
        refine .inr (.inr (.inr (.inr ⟨h1, h2, rfl, by omega, by rw [(wrote_cell S i _ hi hcl).1]; omega, (H i).c.reserving, (H i).ctr, rfl, hcl, hci, hnon _ (by show (H i).c.fix = _; rw [ck.fix, hci]), ?_, ?_⟩)))
        · refine ⟨hRI.cs, ?_, fun _ => ⟨L2.tab, ?_, ?_, ?_, ?_⟩, fun e => by simp at e, hRI.le, ?_, ?_⟩
          · rw [show (fun j => ofC ((wroteM S i (cellT (H i).c.reserving)).cell j)) = cellD (fun j => ofC (S.cell j)) i (H i).c.reserving from funext he]; exact dk2
          · intro j hj
            rw [hb, he]
            by_cases e : j = i
            · rw [if_pos e, if_pos e]
            · rw [if_neg e, if_neg e]; exact L.eq j hj
          · intro j hj h0
            rw [hb] at h0 ⊢
            by_cases e : j = i
            · rw [if_pos e]
              dsimp only
              rw [hid2, setN_at]
              omega
            · rw [if_neg e] at h0 ⊢
              have : (H j).c.id ≠ id := fun e2 => e (hone j hj ⟨h0, by rw [e2]⟩)
              rw [setN_ne _ _ _ _ this]
              exact L.ct j hj h0
          · intro j hj h0
            rw [hb] at h0 ⊢
            by_cases e : j = i
            · rw [if_pos e] at h0
              have : (H i).c.st = 0 := h0
              omega
            · rw [if_neg e] at h0 ⊢; exact L.z j hj h0
          · intro x hx
            by_cases e : x = id
            · subst e; rw [setK_at]; exact L.yn x hx
            · rw [setK_ne _ _ _ _ e]; exact L.yn x hx
          · intro j hj h0
            rw [hb] at h0 ⊢
            by_cases e : j = i
            · rw [if_pos e]; exact hcl
            · rw [if_neg e] at h0 ⊢; exact h.tk j hj h0
          · intro j hj h0
            rw [hb] at h0 ⊢
            by_cases e : j = i
            · rw [if_pos e]; dsimp only; omega
            · rw [if_neg e] at h0 ⊢; exact h.cr j hj h0
        · intro j hj hj2
          have := hone j hj hj2
          subst this
          unfold hit
          rw [hb, if_pos rfl]
          exact ⟨rfl, hh, rfl⟩
end Go.Proofs.YtgalgjmhdbncbaaGreat
