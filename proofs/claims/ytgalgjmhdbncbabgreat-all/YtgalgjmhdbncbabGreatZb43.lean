import Derived.Test.YtgalgjmhdbncbabGreatZb29
import Derived.Test.YtgalgjmhdbncbabGreatZb37
import Derived.Test.YtgalgjmhdbncbabGreatZb00
import Derived.Test.YtgalgjmhdbncbabGreatZb41
namespace Go.Proofs.YtgalgjmhdbncbabGreat
open Go.RowKit

set_option maxRecDepth 100000 in
set_option maxHeartbeats 1000000 in
theorem rOpen_key (key n m p : ByteArray) (hk : ¬ KeyLen key.size) (w : World) :
    Calls Tryz.prog 44 #[.string key, .string n, .string m, .string p] w fun e w' => e = .returned (.tuple #[.string ⟨#[]⟩, .int .i64 2]) ∧ Below w.heap.size w w' := by
  have HK : Hid _ := not_key hk
  clear hk
  go_enter Tryz.func44, Tryz.ntmps44
  go_wp2_with fail
  refine (rAlg_no key HK.out.1 HK.out.2.1 HK.out.2.2 _).mono ?_
  rintro e w1 ⟨rfl, hw⟩
  subst hw
  go_wp2
  go_ret2
  exact ⟨rfl, Below.refl _ _⟩
set_option maxRecDepth 100000 in
set_option maxHeartbeats 1000000 in
theorem rOpen_nonce (key n m p : ByteArray) (hk : KeyLen key.size) (hn : ¬ NonceLen n.size) (hz : n.size ≤ maxLen) (w : World) :
    Calls Tryz.prog 44 #[.string key, .string n, .string m, .string p] w fun e w' => e = .returned (.tuple #[.string ⟨#[]⟩, .int .i64 3]) ∧ Below w.heap.size w w' := by
  have HK : Hid _ := hk
  unfold maxLen at hz
  unfold NonceLen at hn
  clear hk
  by_cases h1 : n.size < 1
  · clear hn
    go_enter Tryz.func44, Tryz.ntmps44
    go_wp2_with fail
    refine (rAlg_yes key HK.out _).mono ?_
    rintro e w1 ⟨⟨a, ⟨ha, _⟩, rfl⟩, hw⟩
    subst hw
    have ha' : ((a : Int) == 0) = false := by rw [beq_eq_false_iff_ne]; omega
    go_wp2
    go_ret2
    exact ⟨rfl, Below.refl _ _⟩
  · have h2 : 40 < n.size := by omega
    clear hn
    go_enter Tryz.func44, Tryz.ntmps44
    go_wp2_with fail
    refine (rAlg_yes key HK.out _).mono ?_
    rintro e w1 ⟨⟨a, ⟨ha, _⟩, rfl⟩, hw⟩
    subst hw
    have ha' : ((a : Int) == 0) = false := by rw [beq_eq_false_iff_ne]; omega
    go_wp2
    go_ret2
    exact ⟨rfl, Below.refl _ _⟩
set_option maxRecDepth 100000 in
set_option maxHeartbeats 1000000 in
theorem rOpen_long (key n m p : ByteArray) (hk : KeyLen key.size) (hn : NonceLen n.size) (hl : 200 < m.size ∨ 216 < p.size) (hm : m.size ≤ maxLen) (hp : p.size ≤ maxLen) (w : World) :
    Calls Tryz.prog 44 #[.string key, .string n, .string m, .string p] w fun e w' => e = .returned (.tuple #[.string ⟨#[]⟩, .int .i64 4]) ∧ Below w.heap.size w w' := by
  have HK : Hid _ := hk
  obtain ⟨hn1, hn2⟩ := hn
  unfold maxLen at hm hp
  clear hk
  by_cases h1 : 200 < m.size
  · clear hl
    go_enter Tryz.func44, Tryz.ntmps44
    go_wp2_with fail
    refine (rAlg_yes key HK.out _).mono ?_
    rintro e w1 ⟨⟨a, ⟨ha, _⟩, rfl⟩, hw⟩
    subst hw
    have ha' : ((a : Int) == 0) = false := by rw [beq_eq_false_iff_ne]; omega
    go_wp2
    go_ret2
    exact ⟨rfl, Below.refl _ _⟩
  · have h2 : 216 < p.size := by omega
    clear hl
    go_enter Tryz.func44, Tryz.ntmps44
    go_wp2_with fail
    refine (rAlg_yes key HK.out _).mono ?_
    rintro e w1 ⟨⟨a, ⟨ha, _⟩, rfl⟩, hw⟩
    subst hw
    have ha' : ((a : Int) == 0) = false := by rw [beq_eq_false_iff_ne]; omega
    go_wp2
    go_ret2
    exact ⟨rfl, Below.refl _ _⟩
set_option maxRecDepth 100000 in
set_option maxHeartbeats 1000000 in
theorem rOpen_size (key n m p : ByteArray) (hk : KeyLen key.size) (hn : NonceLen n.size) (hm : m.size ≤ 200) (hp : p.size < 16) (w : World) :
    Calls Tryz.prog 44 #[.string key, .string n, .string m, .string p] w fun e w' => e = .returned (.tuple #[.string ⟨#[]⟩, .int .i64 5]) ∧ Below w.heap.size w w' := by
  have HK : Hid _ := hk
  obtain ⟨hn1, hn2⟩ := hn
  clear hk
  go_enter Tryz.func44, Tryz.ntmps44
  go_wp2_with fail
  refine (rAlg_yes key HK.out _).mono ?_
  rintro e w1 ⟨⟨a, ⟨ha, _⟩, rfl⟩, hw⟩
  subst hw
  have ha' : ((a : Int) == 0) = false := by rw [beq_eq_false_iff_ne]; omega
  go_wp2
  go_ret2
  exact ⟨rfl, Below.refl _ _⟩
set_option maxRecDepth 100000 in
set_option maxHeartbeats 1000000 in
theorem rOpen_mid (key n m p : ByteArray) (hk : KeyLen key.size) (hn : NonceLen n.size) (hm : m.size ≤ 200) (hp : 16 ≤ p.size) (hp2 : p.size ≤ 216) (ok : Bool)
    (hok : ((sealT key n m (maskT key (firstF key n) (p.extract 0 (p.size - 16)))).toList == p.toList) = ok) (w : World) :
    Calls Tryz.prog 44 #[.string key, .string n, .string m, .string p] w fun e w' => e = .returned (if ok = true then .tuple #[.string (maskT key (firstF key n) (p.extract 0 (p.size - 16))), .int .i64 0] else .tuple #[.string ⟨#[]⟩, .int .i64 6]) ∧ Below w.heap.size w w' := by
  have HK : Hid _ := hk
  have HN : Hid _ := hn
  obtain ⟨hn1, hn2⟩ := hn
  obtain ⟨E, hE⟩ : ∃ E, p.size = E + 16 := ⟨p.size - 16, by omega⟩
  rw [show p.size - 16 = E by omega] at hok ⊢
  have hi : ((p.size : Int) - 16) = (E : Int) := by omega
  have hE2 : (E : Int) ≤ (p.size : Int) := by omega
  have hE3 : E ≤ p.size := by omega
  have hcut := cut_size p 0 E hE3
  rw [Nat.sub_zero] at hcut
  have hB : (p.extract 0 E).size ≤ 200 := by omega
  have hms : ∀ b, (maskT key (firstF key n) b).size = b.size := fun b => maskT_size _ _ _
  generalize hbd : p.extract 0 E = Bd at *
  have hst := fun w => stream_ref key (firstF key n) Bd.size HK.out (by omega) w
  rw [hcut] at hst
  have hxm := fun w => rxor_mask key Bd (firstF key n) (by omega) w
  rw [hcut] at hxm
  have HSt : Hid _ := hst
  have HXm : Hid _ := hxm
  have hmB := hms Bd
  clear hk hst hxm hE hms
  generalize hmk : maskT key (firstF key n) Bd = Pl at *
  go_enter Tryz.func44, Tryz.ntmps44
  go_wp2_with fail
  refine (rAlg_yes key HK.out _).mono ?_
  rintro e w1 ⟨⟨a, ⟨ha, _⟩, rfl⟩, hw⟩
  subst hw
  have ha' : ((a : Int) == 0) = false := by rw [beq_eq_false_iff_ne]; omega
  go_wp2_with fail
  refine (first_ref key n HK.out (by omega) _).mono ?_
  rintro e w2 ⟨rfl, b2⟩
  go_wp2_with fail
  refine (HSt.out _).mono ?_
  rintro e w3 ⟨rfl, b3⟩
  go_wp2_with fail
  refine (HXm.out _).mono ?_
  rintro e w4 ⟨rfl, b4⟩
  go_wp2_with fail
  refine (rSeal_ok key n m Pl HK.out HN.out hm (by omega) _).mono ?_
  rintro e w5 ⟨rfl, b5⟩
  have y2 := b2.size
  have y3 := b3.size
  have y4 := b4.size
  have BB := ((b2.trans (b3.mono (by omega))).trans (b4.mono (by omega))).trans (b5.mono (by omega))
  clear b2 b3 b4 b5 y2 y3 y4
  cases ok
  · go_wp2
    go_ret2
    exact ⟨rfl, BB⟩
  · go_wp2
    go_ret2
    exact ⟨rfl, BB⟩
theorem beq_of {a b : ByteArray} (h : a = b) : (a.toList == b.toList) = true := by rw [h]; exact beq_self_eq_true _
theorem beq_not {a b : ByteArray} (h : a ≠ b) : (a.toList == b.toList) = false := by
  rw [beq_eq_false_iff_ne]
  intro e
  rw [ByteArray.toList_eq, ByteArray.toList_eq] at e
  exact h (WideShapes.bytes_inj e)
theorem openBoth (key n m p : ByteArray) (hs : key.size ≤ maxLen) (hn : n.size ≤ maxLen) (hm : m.size ≤ maxLen) (hp : p.size ≤ maxLen) : ∃ (v : ByteArray) (c : Int),
    (∀ w, Calls Tryz.prog 43 #[.string key, .string n, .string m, .string p] w fun e w' => e = .returned (.tuple #[.string v, .int .i64 c]) ∧ Below w.heap.size w w') ∧
    (∀ w, Calls Tryz.prog 44 #[.string key, .string n, .string m, .string p] w fun e w' => e = .returned (.tuple #[.string v, .int .i64 c]) ∧ Below w.heap.size w w') := by
  by_cases hk : KeyLen key.size
  · by_cases h1 : NonceLen n.size
    · by_cases h2 : 200 < m.size ∨ 216 < p.size
      · exact ⟨_, _, fun w => open_long key n m p hs hk h1 h2 hm hp w, fun w => rOpen_long key n m p hk h1 h2 hm hp w⟩
      · by_cases h3 : p.size < 16
        · exact ⟨_, _, fun w => open_size key n m p hs hk h1 (by omega) h3 w, fun w => rOpen_size key n m p hk h1 (by omega) h3 w⟩
        · have ho := sealT_open key n m p (by omega)
          by_cases h4 : str 16 (tagF key (firstF key n) m (p.extract 0 (p.size - 16))) = p.extract (p.size - 16) p.size
          · exact ⟨_, _, fun w => open_yes key n m p hs hk h1 (by omega) (by omega) (by omega) h4 w, fun w => rOpen_mid key n m p hk h1 (by omega) (by omega) (by omega) true (beq_of (ho.2 h4)) w⟩
          · exact ⟨_, _, fun w => open_no key n m p hs hk h1 (by omega) (by omega) (by omega) h4 w, fun w => rOpen_mid key n m p hk h1 (by omega) (by omega) (by omega) false (beq_not (fun e => h4 (ho.1 e))) w⟩
    · exact ⟨_, _, fun w => open_nonce key n m p hs hk h1 hn w, fun w => rOpen_nonce key n m p hk h1 hn w⟩
  · exact ⟨_, _, fun w => open_key key n m p hs hk w, fun w => rOpen_key key n m p hk w⟩
end Go.Proofs.YtgalgjmhdbncbabGreat
namespace Go.Proofs.YtgalgjmhdbncbabGreat
open Go.RowKit

theorem str_cut (n k : Nat) (f : Nat → UInt8) (h : k ≤ n) : (str n f).extract 0 k = str k f := by
  apply bytes_ext
  · rw [cut_size _ _ _ (by rw [str_size]; omega), str_size]; omega
  · intro j hj
    rw [cut_size _ _ _ (by rw [str_size]; omega)] at hj
    rw [sf_cut _ _ _ _ (by rw [str_size]; omega) (by omega), sf_str _ _ _ (by omega), sf_str _ _ _ (by omega), Nat.zero_add]
theorem enc_head (A I : Nat) (n b t : ByteArray) (hn : n.size = 12) (hb : b.size ≤ 200) (ht : t.size = 16) : (encT A I n b t).extract 0 20 = headT A I n b := by
  rw [← enc_bytes A I n b t hn hb ht, str_cut _ _ _ (by omega), head_eq]
theorem encT_len (A I : Nat) (n b t : ByteArray) : (encT A I n b t).size = 36 + b.size := str_size _ _
theorem enc_rest (A I : Nat) (n b t : ByteArray) (ht : t.size = 16) : (encT A I n b t).extract 20 (36 + b.size) = b ++ t := by
  have hz := encT_len A I n b t
  apply bytes_ext
  · rw [cut_size _ _ _ (by omega), ByteArray.size_append]; omega
  · intro j hj
    rw [cut_size _ _ _ (by omega)] at hj
    rw [sf_cut _ _ _ _ (by omega) (by omega), sf_append]
    show sf (str (36 + b.size) (recF A I n b t)) (20 + j) = _
    rw [sf_str _ _ _ (by omega)]
    unfold recF
    rw [if_neg (by omega)]
    by_cases h : j < b.size
    · rw [if_pos (by omega), if_pos h, show 20 + j - 20 = j by omega]
    · rw [if_neg (by omega), if_neg h, show 20 + j - 20 - b.size = j - b.size by omega]
theorem head_like (A I : Nat) (n b b' : ByteArray) (h : b.size = b'.size) : headT A I n b = headT A I n b' := by unfold headT e5F; rw [h]
theorem headT_size (A I : Nat) (n b : ByteArray) : (headT A I n b).size = 20 := str_size _ _
theorem cut_join (s : ByteArray) (k : Nat) (h : k ≤ s.size) : s.extract 0 k ++ s.extract k s.size = s := by
  apply bytes_ext
  · rw [ByteArray.size_append, cut_size _ _ _ h, cut_size _ _ _ (Nat.le_refl _)]; omega
  · intro j hj
    rw [ByteArray.size_append, cut_size _ _ _ h, cut_size _ _ _ (Nat.le_refl _)] at hj
    rw [sf_append, cut_size _ _ _ h]
    by_cases e : j < k - 0
    · rw [if_pos e, sf_cut _ _ _ _ h (by omega), Nat.zero_add]
    · rw [if_neg e, sf_cut _ _ _ _ (Nat.le_refl _) (by omega), show k + (j - (k - 0)) = j by omega]
theorem enc_join (A I : Nat) (n b t : ByteArray) (hn : n.size = 12) (hb : b.size ≤ 200) (ht : t.size = 16) : headT A I n b ++ (b ++ t) = encT A I n b t := by
  have h := cut_join (encT A I n b t) 20 (by rw [encT_len]; omega)
  rw [enc_head A I n b t hn hb ht, encT_len, enc_rest A I n b t ht] at h
  exact h
theorem cat_left (a b : ByteArray) : (a ++ b).extract 0 a.size = a := by
  have hz : (a ++ b).size = a.size + b.size := ByteArray.size_append
  apply bytes_ext
  · rw [cut_size _ _ _ (by omega)]; omega
  · intro j hj
    rw [cut_size _ _ _ (by omega)] at hj
    rw [sf_cut _ _ _ _ (by omega) (by omega), sf_append, Nat.zero_add, if_pos (by omega)]
theorem cat_right (a b : ByteArray) : (a ++ b).extract a.size (a.size + b.size) = b := by
  have hz : (a ++ b).size = a.size + b.size := ByteArray.size_append
  apply bytes_ext
  · rw [cut_size _ _ _ (by omega)]; omega
  · intro j hj
    rw [cut_size _ _ _ (by omega)] at hj
    rw [sf_cut _ _ _ _ (by omega) (by omega), sf_append, if_neg (by omega), show a.size + j - a.size = j by omega]
theorem seal_rec (h : Hd) (m p : ByteArray) (hf : h.c.fix.size = 4) (hp : p.size ≤ 200) : headT h.c.alg h.c.id (hnonT h) p ++ sealT h.c.key (hnonT h) (headT h.c.alg h.c.id (hnonT h) p ++ m) p = sealR h m p := by
  unfold sealR sealT
  rw [head_like _ _ _ p (maskT h.c.key (firstF h.c.key (hnonT h)) p) (maskT_size _ _ _).symm]
  exact enc_join _ _ _ _ _ (by unfold hnonT; rw [ByteArray.size_append, hf, numT_size]) (by rw [maskT_size]; exact hp) (str_size _ _)
theorem ropen_rec (key rec m : ByteArray) (hr : badAt rec = none) (hk : KeyLen key.size) (hm : m.size ≤ 180) (w : World) :
    Calls Tryz.prog 44 #[.string key, .string (rN rec), .string (rec.extract 0 20 ++ m), .string (rec.extract 20 rec.size)] w fun e w' => ((tagOk key rec m ∧ e = .returned (.tuple #[.string (maskT key (firstF key (rN rec)) (rB rec)), .int .i64 0])) ∨ (¬ tagOk key rec m ∧ e = .returned (.tuple #[.string ⟨#[]⟩, .int .i64 6]))) ∧ Below w.heap.size w w' := by
  obtain ⟨hz, hR, hE⟩ := bad_none rec hr
  have a4 : (rN rec).size = 12 := hR.n
  have a5 : (rB rec).size ≤ 200 := hR.b
  have a6 : (rT rec).size = 16 := hR.t
  have hE' : encT (rA rec) (rI rec) (rN rec) (rB rec) (rT rec) = rec := hE
  have e0 : rec.extract 0 20 = headT (rA rec) (rI rec) (rN rec) (rB rec) := by
    have := enc_head (rA rec) (rI rec) (rN rec) (rB rec) (rT rec) a4 a5 a6
    rw [hE'] at this; exact this
  have hbz : (rB rec).size = (sf rec 19).toNat := by unfold rB; rw [cut_size _ _ _ (by omega)]; omega
  have e1 : rec.extract 20 rec.size = rB rec ++ rT rec := by
    have := enc_rest (rA rec) (rI rec) (rN rec) (rB rec) (rT rec) a6
    rw [hE', hbz, ← hz] at this; exact this
  rw [e0, e1]
  have pz : (rB rec ++ rT rec).size = (rB rec).size + 16 := by rw [ByteArray.size_append, a6]
  have p0 : (rB rec ++ rT rec).extract 0 ((rB rec ++ rT rec).size - 16) = rB rec := by rw [pz, Nat.add_sub_cancel]; exact cat_left _ _
  have p1 : (rB rec ++ rT rec).extract ((rB rec ++ rT rec).size - 16) (rB rec ++ rT rec).size = rT rec := by
    rw [pz, Nat.add_sub_cancel, ← a6]; exact cat_right _ _
  have hmz : (headT (rA rec) (rI rec) (rN rec) (rB rec) ++ m).size ≤ 200 := by rw [ByteArray.size_append, headT_size]; omega
  have ho := sealT_open key (rN rec) (headT (rA rec) (rI rec) (rN rec) (rB rec) ++ m) (rB rec ++ rT rec) (by omega)
  rw [p0, p1] at ho
  have et : str 16 (sf (rT rec)) = rT rec := str_sf _ _ a6
  have hN : NonceLen (rN rec).size := by unfold NonceLen; omega
  by_cases hT : tagOk key rec m
  · refine Calls.mono (rOpen_mid key (rN rec) _ (rB rec ++ rT rec) hk hN hmz (by omega) (by omega) true (beq_of ?_) w) ?_
    · rw [p0]
      refine ho.2 ?_
      unfold tagOk at hT
      rw [et] at hT; exact hT
    · rintro e w' ⟨rfl, hb⟩
      rw [if_pos rfl, p0]
      exact ⟨.inl ⟨hT, rfl⟩, hb⟩
  · refine Calls.mono (rOpen_mid key (rN rec) _ (rB rec ++ rT rec) hk hN hmz (by omega) (by omega) false (beq_not ?_) w) ?_
    · rw [p0]
      intro e
      apply hT
      unfold tagOk
      rw [et]; exact ho.1 e
    · rintro e w' ⟨rfl, hb⟩
      exact ⟨.inr ⟨hT, rfl⟩, hb⟩
end Go.Proofs.YtgalgjmhdbncbabGreat
namespace Go.Proofs.YtgalgjmhdbncbabGreat
open Go.RowKit
attribute [local go_sem ↓] Go.wp_at_zero Go.wp_at_succ

structure OpR (W : World) (g gr gh o : Nat) (sh : Value) (x : Rh) (A I : Nat) (n b t : ByteArray) : Prop where
  a3 : W.cell? ⟨g, 3, none⟩ = some sh
  c0 : W.cell? ⟨gh, o, none⟩ = some (.int .i64 x.alg)
  c8 : W.cell? ⟨gh, o + 8, none⟩ = some (.string x.key)
  rr : W.heap[gr]? = some (.cells #[.int .i64 A, .int .i64 I, .string n, .string b, .string t] 35 (0, 0))
  lg : g < W.heap.size
  lh : gh < W.heap.size
theorem OpR.drew {W : World} {g gr gh o : Nat} {sh : Value} {x : Rh} {A I : Nat} {n b t : ByteArray} (s : OpR W g gr gh o sh x A I n b t) : OpR W.drew g gr gh o sh x A I n b t := ⟨s.a3, s.c0, s.c8, s.rr, s.lg, s.lh⟩
theorem OpR.below {W W' : World} {g gr gh o : Nat} {sh : Value} {x : Rh} {A I : Nat} {n b t : ByteArray} (s : OpR W g gr gh o sh x A I n b t) (hb : Below W.heap.size W W') : OpR W' g gr gh o sh x A I n b t :=
  ⟨by rw [hb.cell (p := ⟨g, 3, none⟩) s.lg]; exact s.a3, by rw [hb.cell (p := ⟨gh, o, none⟩) s.lh]; exact s.c0, by rw [hb.cell (p := ⟨gh, o + 8, none⟩) s.lh]; exact s.c8, by rw [hb.block gr (heap_lt s.rr)]; exact s.rr, Nat.lt_of_lt_of_le s.lg hb.size, Nat.lt_of_lt_of_le s.lh hb.size⟩
set_option maxRecDepth 100000 in
set_option maxHeartbeats 8000000 in
theorem ropen_any (B g gs gc num : Nat) (fl : Bool) (sh : Value) (hs : List Rh) (S : Sto) (R : RSt) (gp : Nat) (H : Nat → Hd) (rec m s : ByteArray) (r : Int) (hP : openP gp S H rec m s r) (hrel : RelH hs H) (hov : overB fl R.user num = true ↔ S.tab ≠ some gp) (hrz : rec.size ≤ maxLen) (hmz : m.size ≤ maxLen) (w : World) (t : TabR w B g gs num fl sh hs) (hS : StoR w gs gc S R) :
    Calls Tryz.prog 74 #[ptr g, .string rec, .string m] w fun e w' => e = .returned (.tuple #[.string s, .int .i64 r]) ∧ Below w.heap.size w w' := by
  have ho := fun w t h => rover_any B g gs gc num fl sh hs S R w t h
  have hpa := fun w => refParse_any rec hrz w
  have HT : Hid _ := t
  have HS : Hid _ := hS
  have HZ : Hid _ := hmz
  clear t hS hmz
  unfold ptr at ho ⊢
  rcases hP with ⟨h1, rfl, rfl⟩ | ⟨h1, hQ⟩
  · rw [hov.2 h1] at ho
    have HO : Hid _ := ho
    clear ho hpa h1 hov hrel
    go_enter Tryz.func74, Tryz.ntmps74
    go_wp2_with fail
    refine (HO.out _ HT.out HS.out).mono ?_
    rintro e w1 ⟨rfl, b1⟩
    go_wp2
    go_ret2
    exact ⟨rfl, b1⟩
  · have hof : overB fl R.user num = false := by
      rw [Bool.eq_false_iff]
      intro e
      exact hov.1 e h1
    rw [hof] at ho
    have HO : Hid _ := ho
    clear ho hov
    rcases hQ with ⟨h4, rfl, rfl⟩ | ⟨h4, ⟨p, hp⟩, rfl, rfl⟩ | ⟨h4, hb, i, c, hL, hc⟩
    · have e4 : (180 : Int) < (m.size : Int) := by omega
      clear hpa hrel h1
      go_enter Tryz.func74, Tryz.ntmps74
      go_wp2_with fail
      refine (HO.out _ HT.out HS.out).mono ?_
      rintro e w1 ⟨rfl, b1⟩
      go_wp2
      go_ret2
      exact ⟨rfl, b1⟩
    · have e4 : ¬ ((180 : Int) < (m.size : Int)) := by omega
      unfold refPV at hpa
      rw [hp] at hpa
      have HPA : Hid _ := hpa
      clear hpa hrel h1 hp
      go_enter Tryz.func74, Tryz.ntmps74
      go_wp2_with fail
      refine (HO.out _ HT.out HS.out).mono ?_
      rintro e w1 ⟨rfl, b1⟩
      go_wp2_with fail
      refine (HPA.out _).mono ?_
      rintro e w2 ⟨rfl, b2⟩
      have B2 := b1.trans (b2.mono b1.size)
      clear b1 b2
      unfold recV
      go_wp2
      go_ret2
      exact ⟨rfl, B2.alloc B2.size _⟩
    · have e4 : ¬ ((180 : Int) < (m.size : Int)) := by omega
      unfold refPV at hpa
      rw [hb] at hpa
      have hpa2 : ∀ w, Calls Tryz.prog 48 #[.string rec] w fun e w' => e = .returned (.tuple #[.agg #[.int .i64 (rA rec), .int .i64 (rI rec), .string (rN rec), .string (rB rec), .string (rT rec)], .int .i64 0, .int .i64 0]) ∧ Below w.heap.size w w' := hpa
      have HPA : Hid _ := hpa2
      have hm := fun w t h => rmay_live B g gs gc num fl sh hs S R H (rI rec : Nat) i c hrel hof hL w t h
      unfold ptr at hm
      have HM : Hid _ := hm
      have HB : Hid _ := hb
      have HC : Hid _ := hc
      have HRZ : Hid _ := hrz
      have H4 : Hid _ := h4
      have hrz20 : 20 ≤ rec.size := by
        have := (bad_none rec hb).z
        omega
      have i20 : (20 : Int) ≤ (rec.size : Int) := by omega
      have i21 : ¬ (9223372036854775807 < 20 + m.size) := by omega
      clear hpa hpa2 hm hb hc hrel h1 hL hrz h4
      go_enter Tryz.func74, Tryz.ntmps74
      go_wp2_with fail
      refine (HO.out _ HT.out HS.out).mono ?_
      rintro e w1 ⟨rfl, b1⟩
      go_wp2_with fail
      refine (HPA.out _).mono ?_
      rintro e w2 ⟨rfl, b2⟩
      have B3 := (b1.trans (b2.mono b1.size)).alloc (b1.trans (b2.mono b1.size)).size (.cells #[.int .i64 (rA rec), .int .i64 (rI rec), .string (rN rec), .string (rB rec), .string (rT rec)] 35)
      have r3 : (w2.alloc (.cells #[.int .i64 (rA rec), .int .i64 (rI rec), .string (rN rec), .string (rB rec), .string (rT rec)] 35)).heap[w2.heap.size]? = some (.cells #[.int .i64 (rA rec), .int .i64 (rI rec), .string (rN rec), .string (rB rec), .string (rT rec)] 35 (0, 0)) := heap_of_new _ _ _ rfl
      have t3 := HT.out.below B3
      have s3 := HS.out.below B3
      have HT3 : Hid _ := And.intro t3 s3
      have HB3 : Hid _ := B3
      have HR3 : Hid _ := r3
      clear b1 b2 t3 s3 B3 HT HS
      go_wp2_with fail
      refine (HM.out _ HT3.out.1 HT3.out.2).mono ?_
      rintro e w4 ⟨⟨hc0, k, x, hk, hp, i8, hx, hret, hst, rfl⟩ | ⟨hc0, rfl⟩, b4⟩
      · have B4 := HB3.out.trans (b4.mono HB3.out.size)
        have t4 := HT3.out.1.below b4
        have r4 : w4.heap[w2.heap.size]? = some (.cells #[.int .i64 (rA rec), .int .i64 (rI rec), .string (rN rec), .string (rB rec), .string (rT rec)] 35 (0, 0)) := by rw [b4.block _ (by simp)]; exact HR3.out
        obtain ⟨p, cap, rfl, hat⟩ := t4.sl
        obtain ⟨gh, rfl, hA, lh, _, _⟩ := hat k x hk
        have X4 : OpR w4 g w2.heap.size gh (k * 11) (.slice (some ⟨gh, 0, none⟩) hs.length cap) x (rA rec) (rI rec) (rN rec) (rB rec) (rT rec) := ⟨(cells4' t4.r).2.2.2, hA.c0, hA.c8, r4, t4.lt, lh⟩
        have hkl := getE_lt hk
        have hopen : openR (H i) rec m s r := by
          rcases HC.out with ⟨h, _⟩ | ⟨_, h⟩
          · exact absurd hc0 h
          · exact h
        have hkey : x.key = (H i).c.key := hx.key hst
        have hkz : KeyLen x.key.size := by
          rw [hkey, hx.ok.key, if_pos hst]
          have := hx.ok.alg
          unfold KeyLen
          omega
        have hop := fun w => ropen_rec x.key rec m HB.out hkz H4.out w
        have HOP : Hid _ := hop
        have halg := hx.alg
        have HB4 : Hid _ := B4
        clear hop hk hp hx hret hat hA t4 r4 b4 B4 HT3 HB3 HR3 HM HC
        by_cases hA : rA rec = (H i).c.alg
        · have HFIN : Hid ((tagOk x.key rec m → Hid ((maskT x.key (firstF x.key (rN rec)) (rB rec)) = s ∧ (0 : Int) = r)) ∧ (¬ tagOk x.key rec m → Hid ((⟨#[]⟩ : ByteArray) = s ∧ (6 : Int) = r))) := by
            rw [hkey]
            rcases hopen with ⟨h | h, rfl, rfl⟩ | ⟨⟨_, h⟩, rfl, rfl⟩
            · exact absurd hA h
            · exact ⟨fun h' => absurd h' h, fun _ => ⟨rfl, rfl⟩⟩
            · exact ⟨fun _ => ⟨rfl, rfl⟩, fun h' => absurd h h'⟩
          have ea : ((x.alg : Int) == (rA rec : Int)) = true := by rw [beq_iff_eq, halg, hA]
          clear hopen hkey hkz halg hA
          go_wp2_with fail
          refine wp_region_held_drew (S := fun W' => OpR W' g w2.heap.size gh (k * 11) (.slice (some ⟨gh, 0, none⟩) hs.length cap) x (rA rec) (rI rec) (rN rec) (rB rec) (rT rec)) (by kernel_rfl) X4.drew (fun hHeld => ?_)
          refine tp 0 _ ?r1
          refine nz ?_
          refine tp 1 _ ?r2
          refine nz ?_
          refine tp 2 _ ?r3
          refine nz ?_
          refine tk 3 ?v4 ?y4 ?r4
          case y4 => (intro W' hW; have a3 := hW.a3; go_simp; try with_reducible rfl)
          refine nz ?_
          refine tp 4 _ ?r5
          refine nz ?_
          refine tp 5 _ ?r6
          refine nz ?_
          refine tp 6 _ ?r7
          refine nz ?_
          refine tk 7 ?v8 ?y8 ?r8
          case y8 => (intro W' hW; have c0 := hW.c0; go_simp; try with_reducible rfl)
          refine nz ?_
          refine tp 8 _ ?r9
          refine nz ?_
          refine tk 9 ?v10 ?y10 ?r10
          case y10 => (intro W' hW; obtain ⟨r0, r1, r2, r3, r4⟩ := cells5 hW.rr; go_simp; try with_reducible rfl)
          refine nz ?_
          refine tp 10 _ ?r11
          refine nz ?_
          refine wpAnyH_done (by kernel_rfl) ?_ _
          have X5 := X4.drew
          have HB5 : Hid _ := HB4.out.drew
          clear X4 HB4
          go_wp2_with fail
          refine wp_region_held_drew (S := fun W' => OpR W' g w2.heap.size gh (k * 11) (.slice (some ⟨gh, 0, none⟩) hs.length cap) x (rA rec) (rI rec) (rN rec) (rB rec) (rT rec)) (by kernel_rfl) X5.drew (fun hHeld => ?_)
          refine tp 0 _ ?r12
          refine nz ?_
          refine tp 1 _ ?r13
          refine nz ?_
          refine tp 2 _ ?r14
          refine nz ?_
          refine tk 3 ?v15 ?y15 ?r15
          case y15 => (intro W' hW; have a3 := hW.a3; go_simp; try with_reducible rfl)
          refine nz ?_
          refine tp 4 _ ?r16
          refine nz ?_
          refine tp 5 _ ?r17
          refine nz ?_
          refine tp 6 _ ?r18
          refine nz ?_
          refine tk 7 ?v19 ?y19 ?r19
          case y19 => (intro W' hW; have c8 := hW.c8; go_simp; try with_reducible rfl)
          refine nz ?_
          refine tp 8 _ ?r20
          refine nz ?_
          refine tk 9 ?v21 ?y21 ?r21
          case y21 => (intro W' hW; obtain ⟨r0, r1, r2, r3, r4⟩ := cells5 hW.rr; go_simp; try with_reducible rfl)
          refine nz ?_
          refine tp 10 _ ?r22
          refine nz ?_
          refine tp 11 _ ?r23
          refine nz ?_
          refine tp 12 _ ?r24
          refine nz ?_
          refine tp 13 _ ?r25
          refine nz ?_
          refine tp 14 _ ?r26
          refine nz ?_
          refine tp 15 _ ?r27
          refine nz ?_
          refine wpAnyH_ready (rs := [16]) (by kernel_rfl) (by simp) ?_
          refine AllReadyH.cons rfl (fun K hK => ?_) ?nil16
          case nil16 => exact AllReadyH.nil
          go_simp
          refine Calls.mono (HOP.out _) ?_
          rintro e w6 ⟨hcase, b6⟩
          have X6 := X5.drew.below b6
          obtain ⟨sx, cx, rfl, HSX⟩ : ∃ sx cx, e = .returned (.tuple #[.string sx, .int .i64 cx]) ∧ Hid (sx = s ∧ cx = r) := by
            rcases hcase with ⟨hT, rfl⟩ | ⟨hT, rfl⟩
            · exact ⟨_, _, rfl, HFIN.out.1 hT⟩
            · exact ⟨_, _, rfl, HFIN.out.2 hT⟩
          clear hcase
          go_wp2_with fail
          refine hK.out _ _ X6 (fun hHeld => ?_)
          clear hK K
          refine tp 17 _ ?r28
          refine nz ?_
          refine tp 18 _ ?r29
          refine nz ?_
          refine tp 19 _ ?r30
          refine nz ?_
          refine tp 20 _ ?r31
          refine nz ?_
          refine tp 21 _ ?r32
          refine nz ?_
          refine wpAnyH_done (by kernel_rfl) ?_ _
          have B6 := HB5.out.drew.trans (b6.mono HB5.out.size)
          go_wp2
          go_ret2
          rw [← HSX.out.1, ← HSX.out.2]
          exact ⟨rfl, B6⟩
        · have hsr : s = ⟨#[]⟩ ∧ r = 6 := by
            rcases hopen with ⟨_, h1, h2⟩ | ⟨⟨h, _⟩, _⟩
            · exact ⟨h1, h2⟩
            · exact absurd h hA
          have HSR : Hid _ := hsr
          clear hsr
          have ea : ((x.alg : Int) == (rA rec : Int)) = false := by rw [beq_eq_false_iff_ne, halg]; omega
          clear hopen hkey hkz halg hA HOP
          go_wp2_with fail
          refine wp_region_held_drew (S := fun W' => OpR W' g w2.heap.size gh (k * 11) (.slice (some ⟨gh, 0, none⟩) hs.length cap) x (rA rec) (rI rec) (rN rec) (rB rec) (rT rec)) (by kernel_rfl) X4.drew (fun hHeld => ?_)
          refine tp 0 _ ?r33
          refine nz ?_
          refine tp 1 _ ?r34
          refine nz ?_
          refine tp 2 _ ?r35
          refine nz ?_
          refine tk 3 ?v36 ?y36 ?r36
          case y36 => (intro W' hW; have a3 := hW.a3; go_simp; try with_reducible rfl)
          refine nz ?_
          refine tp 4 _ ?r37
          refine nz ?_
          refine tp 5 _ ?r38
          refine nz ?_
          refine tp 6 _ ?r39
          refine nz ?_
          refine tk 7 ?v40 ?y40 ?r40
          case y40 => (intro W' hW; have c0 := hW.c0; go_simp; try with_reducible rfl)
          refine nz ?_
          refine tp 8 _ ?r41
          refine nz ?_
          refine tk 9 ?v42 ?y42 ?r42
          case y42 => (intro W' hW; obtain ⟨r0, r1, r2, r3, r4⟩ := cells5 hW.rr; go_simp; try with_reducible rfl)
          refine nz ?_
          refine tp 10 _ ?r43
          refine nz ?_
          refine wpAnyH_done (by kernel_rfl) ?_ _
          go_wp2
          go_ret2
          rw [HSR.out.1, HSR.out.2]
          exact ⟨rfl, HB4.out.drew⟩
      · have ec : (c == 0) = false := by rw [beq_eq_false_iff_ne]; exact hc0
        have hsr : s = ⟨#[]⟩ ∧ r = c := by
          rcases HC.out with ⟨_, h1, h2⟩ | ⟨h, _⟩
          · exact ⟨h1, h2⟩
          · exact absurd h hc0
        have HSR : Hid _ := hsr
        clear hsr
        have B4 := HB3.out.trans (b4.mono HB3.out.size)
        clear b4 HB3 HT3
        go_wp2
        go_ret2
        rw [HSR.out.1, HSR.out.2]
        exact ⟨rfl, B4⟩
end Go.Proofs.YtgalgjmhdbncbabGreat
