import Derived.Test.YtgalgjmhdbncbabGreatZb27
import Derived.Test.YtgalgjmhdbncbabGreatZb29
import Derived.Test.YtgalgjmhdbncbabGreatZb43
import Derived.Test.YtgalgjmhdbncbabGreatZb31
import Derived.Test.YtgalgjmhdbncbabGreatZb20
import Derived.Test.YtgalgjmhdbncbabGreatZb51
namespace Go.Proofs.YtgalgjmhdbncbabGreat
open Go.RowKit
attribute [local go_sem ↓] Go.wp_at_zero Go.wp_at_succ

set_option maxRecDepth 100000 in
set_option maxHeartbeats 4000000 in
theorem lblocks_any (key block h s : ByteArray) (hk : key.size ≤ maxLen) (hs : s.size ≤ maxLen) (w : World) :
    Calls Tryz.prog 13 #[.string key, .string block, .string h, .string s] w fun e w' => e = .returned (.bool true) ∧ Below w.heap.size w w' := by
  obtain ⟨v, n, c1, c2⟩ := encBoth key block hk
  obtain ⟨x, m, c3, c4⟩ := hashBoth h s hs
  have C1 : Hid _ := c1
  have C2 : Hid _ := c2
  have C3 : Hid _ := c3
  have C4 : Hid _ := c4
  clear c1 c2 c3 c4 hk hs
  go_enter Tryz.func13, Tryz.ntmps13
  go_wp2_with fail
  refine (Hid.out C1 _).mono ?_
  rintro e w1 ⟨rfl, b1⟩
  go_wp2_with fail
  refine (Hid.out C2 _).mono ?_
  rintro e w2 ⟨rfl, b2⟩
  go_wp2_with fail
  refine (Hid.out C3 _).mono ?_
  rintro e w3 ⟨rfl, b3⟩
  go_wp2_with fail
  refine (Hid.out C4 _).mono ?_
  rintro e w4 ⟨rfl, b4⟩
  clear C1 C2 C3 C4
  go_wp2_with fail
  refine (lnum_any n _).mono ?_
  rintro e w5 ⟨rfl, hw5⟩
  subst hw5
  go_wp2_with fail
  refine (lnum_any m _).mono ?_
  rintro e w6 ⟨rfl, hw6⟩
  subst hw6
  go_wp2
  go_ret
  have z1 := b1.size
  have z2 := b2.size
  have z3 := b3.size
  exact ⟨rfl, ((b1.trans (b2.mono (by omega))).trans (b3.mono (by omega))).trans (b4.mono (by omega))⟩
set_option maxRecDepth 100000 in
set_option maxHeartbeats 4000000 in
theorem lseals_any (key n m p : ByteArray) (hs : key.size ≤ maxLen) (hn : n.size ≤ maxLen) (hm : m.size ≤ maxLen) (hp : p.size ≤ maxLen) (w : World) :
    Calls Tryz.prog 14 #[.string key, .string n, .string m, .string p] w fun e w' => e = .returned (.bool true) ∧ Below w.heap.size w w' := by
  obtain ⟨v, c, c1, c2⟩ := sealBoth key n m p hs hn hm hp
  have C1 : Hid _ := c1
  have C2 : Hid _ := c2
  clear c1 c2 hs hn hm hp
  go_enter Tryz.func14, Tryz.ntmps14
  go_wp2_with fail
  refine (Hid.out C1 _).mono ?_
  rintro e w1 ⟨rfl, b1⟩
  go_wp2_with fail
  refine (Hid.out C2 _).mono ?_
  rintro e w2 ⟨rfl, b2⟩
  clear C1 C2
  go_wp2_with fail
  refine (lnum_any c _).mono ?_
  rintro e w3 ⟨rfl, hw⟩
  subst hw
  go_wp2
  go_ret
  exact ⟨rfl, b1.trans (b2.mono b1.size)⟩
set_option maxRecDepth 100000 in
set_option maxHeartbeats 4000000 in
theorem lopens_any (key n m p : ByteArray) (hs : key.size ≤ maxLen) (hn : n.size ≤ maxLen) (hm : m.size ≤ maxLen) (hp : p.size ≤ maxLen) (w : World) :
    Calls Tryz.prog 15 #[.string key, .string n, .string m, .string p] w fun e w' => e = .returned (.bool true) ∧ Below w.heap.size w w' := by
  obtain ⟨v, c, c1, c2⟩ := openBoth key n m p hs hn hm hp
  have C1 : Hid _ := c1
  have C2 : Hid _ := c2
  clear c1 c2 hs hn hm hp
  go_enter Tryz.func15, Tryz.ntmps15
  go_wp2_with fail
  refine (Hid.out C1 _).mono ?_
  rintro e w1 ⟨rfl, b1⟩
  go_wp2_with fail
  refine (Hid.out C2 _).mono ?_
  rintro e w2 ⟨rfl, b2⟩
  clear C1 C2
  go_wp2_with fail
  refine (lnum_any c _).mono ?_
  rintro e w3 ⟨rfl, hw⟩
  subst hw
  go_wp2
  go_ret
  exact ⟨rfl, b1.trans (b2.mono b1.size)⟩
set_option maxRecDepth 100000 in
set_option maxHeartbeats 4000000 in
theorem recEncBoth (a i : Int) (n b t : ByteArray) (hb : b.size ≤ maxLen) : ∃ (v : ByteArray) (c : Int),
    (∀ w, Calls Tryz.prog 45 #[.agg #[.int .i64 a, .int .i64 i, .string n, .string b, .string t]] w fun e w' => e = .returned (.tuple #[.string v, .int .i64 c]) ∧ Below w.heap.size w w') ∧
    (∀ w, Calls Tryz.prog 46 #[.agg #[.int .i64 a, .int .i64 i, .string n, .string b, .string t]] w fun e w' => e = .returned (.tuple #[.string v, .int .i64 c]) ∧ Below w.heap.size w w') := by
  by_cases h : RecOk a i n b t
  · obtain ⟨⟨h1, h2⟩, h3, h4, h5, h6, h7⟩ := h
    obtain ⟨A, rfl⟩ : ∃ A : Nat, a = A := ⟨a.toNat, by omega⟩
    obtain ⟨I, rfl⟩ : ∃ I : Nat, i = I := ⟨i.toNat, by omega⟩
    exact ⟨_, _, fun w => encode_yes A I n b t (by omega) (by omega) (by omega) h5 h6 h7 w, fun w => refEncode_yes A I n b t (by omega) (by omega) (by omega) h5 h6 h7 w⟩
  · exact ⟨_, _, fun w => encode_no a i n b t h hb w, fun w => refEncode_no a i n b t h hb w⟩
set_option maxRecDepth 100000 in
set_option maxHeartbeats 4000000 in
theorem recParseBoth (s : ByteArray) (hs : s.size ≤ maxLen) : ∃ (a i : Int) (n b t : ByteArray) (p c : Int),
    (∀ w, Calls Tryz.prog 47 #[.string s] w fun e w' => e = .returned (.tuple #[.agg #[.int .i64 a, .int .i64 i, .string n, .string b, .string t], .int .i64 p, .int .i64 c]) ∧ Below w.heap.size w w') ∧
    (∀ w, Calls Tryz.prog 48 #[.string s] w fun e w' => e = .returned (.tuple #[.agg #[.int .i64 a, .int .i64 i, .string n, .string b, .string t], .int .i64 p, .int .i64 c]) ∧ Below w.heap.size w w') := by
  cases h : badAt s with
  | some p =>
    have e : refPV s = .tuple #[recV 0 0 ⟨#[]⟩ ⟨#[]⟩ ⟨#[]⟩, .int .i64 p, .int .i64 7] := by unfold refPV; rw [h]
    have hr := fun w => refParse_any s hs w
    rw [e] at hr
    exact ⟨_, _, _, _, _, _, _, fun w => parse_bad s p hs h w, hr⟩
  | none =>
    have e : refPV s = .tuple #[recV (sf s 3).toNat (valF (sf s) 4 2) (s.extract 6 18) (s.extract 20 (20 + (sf s 19).toNat)) (s.extract (20 + (sf s 19).toNat) (36 + (sf s 19).toNat)), .int .i64 0, .int .i64 0] := by unfold refPV; rw [h]
    have hr := fun w => refParse_any s hs w
    rw [e] at hr
    exact ⟨_, _, _, _, _, _, _, fun w => parse_ok s hs h w, hr⟩
set_option maxRecDepth 100000 in
set_option maxHeartbeats 4000000 in
theorem lrecords_any (a i : Int) (n b t s : ByteArray) (hb : b.size ≤ maxLen) (hs : s.size ≤ maxLen) (w : World) :
    Calls Tryz.prog 16 #[.agg #[.int .i64 a, .int .i64 i, .string n, .string b, .string t], .string s] w fun e w' => e = .returned (.bool true) ∧ Below w.heap.size w w' := by
  obtain ⟨v, c, c1, c2⟩ := recEncBoth a i n b t hb
  obtain ⟨a', i', n', b', t', p, d, c3, c4⟩ := recParseBoth s hs
  have C1 : Hid _ := c1
  have C2 : Hid _ := c2
  have C3 : Hid _ := c3
  have C4 : Hid _ := c4
  clear c1 c2 c3 c4 hb hs
  go_enter Tryz.func16, Tryz.ntmps16
  go_wp2_with fail
  refine (Hid.out C1 _).mono ?_
  rintro e w1 ⟨rfl, b1⟩
  have r1 : w1.heap[w.heap.size]? = some (.cells #[.int .i64 a, .int .i64 i, .string n, .string b, .string t] 35 (0, 0)) := by rw [b1.block _ (by simp)]; exact heap_of_new _ _ _ rfl
  have B1 : Below w.heap.size w w1 := ((Below.refl _ w).alloc (Nat.le_refl _) _).trans (b1.mono (by simp))
  clear b1
  obtain ⟨z0, z1, z2, z3, z4⟩ := cells5 r1
  go_wp2_with fail
  refine (Hid.out C2 _).mono ?_
  rintro e w2 ⟨rfl, b2⟩
  have B2 := B1.trans (b2.mono B1.size)
  clear b2 B1 z0 z1 z2 z3 z4 r1
  have y2 := B2.size
  go_wp2_with fail
  refine (Hid.out C3 _).mono ?_
  rintro e w3 ⟨rfl, b3⟩
  have B3 := B2.trans (b3.mono B2.size)
  have y3 := B3.size
  clear b3 B2
  go_wp2_with fail
  refine (Hid.out C4 _).mono ?_
  rintro e w4 ⟨rfl, b4⟩
  have r4 : w4.heap[w3.heap.size]? = some (.cells #[.int .i64 a', .int .i64 i', .string n', .string b', .string t'] 35 (0, 0)) := by rw [b4.block _ (by simp)]; exact heap_of_new _ _ _ rfl
  have B4 := (B3.alloc y3 (.cells #[.int .i64 a', .int .i64 i', .string n', .string b', .string t'] 35)).trans (b4.mono (by simp; omega))
  have l4 : w3.heap.size < w4.heap.size := by have := b4.size; simp at this; omega
  clear b4 B3
  obtain ⟨z0, z1, z2, z3, z4⟩ := cells5 r4
  clear r4 C1 C2 C3 C4
  go_wp2_with fail
  refine (lnum_any c _).mono ?_
  rintro e w5 ⟨rfl, hw⟩
  rw [hw]
  go_wp2_with fail
  refine (lnum_any d _).mono ?_
  rintro e w6 ⟨rfl, hw6⟩
  rw [hw6]
  go_wp2
  go_ret
  exact ⟨rfl, B4.alloc B4.size _⟩
end Go.Proofs.YtgalgjmhdbncbabGreat
namespace Go.Proofs.YtgalgjmhdbncbabGreat
open Go.RowKit
attribute [local go_sem ↓] Go.wp_at_zero Go.wp_at_succ

set_option maxRecDepth 100000 in
set_option maxHeartbeats 4000000 in
theorem plain_any (o : OpA) (hO : OpWf o) (w : World) : Calls Tryz.prog 7 #[.agg (opC o)] w fun e w' => e = .returned (.bool true) ∧ Fr [] w w' := by
  have F0 : Fr [] w (w.alloc (.cells (opC o) 37)) := (Fr.refl _ _).alloc _
  have hs : o.s.size ≤ maxLen := by have := hO.s; unfold maxLen; omega
  have ht : o.t.size ≤ maxLen := by have := hO.t; unfold maxLen; omega
  have hu : o.u.size ≤ maxLen := by have := hO.u; unfold maxLen; omega
  have hv : o.v.size ≤ maxLen := by have := hO.v; unfold maxLen; omega
  have hb : o.rb.size ≤ maxLen := by have := hO.rb; unfold maxLen; omega
  have c1 := fun W => lblocks_any o.s o.t o.u o.v hs hv W
  have c2 := fun W => lseals_any o.s o.t o.u o.v hs ht hu hv W
  have c3 := fun W => lopens_any o.s o.t o.u o.v hs ht hu hv W
  have c4 := fun W => lrecords_any o.ra o.ri o.rn o.rb o.rt o.s hb hs W
  rw [show Value.agg (opC o) = .agg #[.int .i64 o.kind, .int .i64 o.on, .int .i64 o.a, .bool o.yes, .string o.s, .string o.t, .string o.u, .string o.v, .int .i64 o.cs, .int .i64 o.ca, .int .i64 o.cm, .int .i64 o.ra, .int .i64 o.ri, .string o.rn, .string o.rb, .string o.rt] from rfl]
  unfold opC at F0
  have C1 : Hid _ := c1
  have C2 : Hid _ := c2
  have C3 : Hid _ := c3
  have C4 : Hid _ := c4
  have HF : Hid _ := F0
  clear c1 c2 c3 c4 F0 hs ht hu hv hb hO
  by_cases k1 : o.kind = 1
  · rw [k1] at HF ⊢
    go_enter Tryz.func7, Tryz.ntmps7
    go_wp2_with fail
    refine Calls.mono (C1.out _) ?_
    rintro e w1 ⟨rfl, b1⟩
    have H : Hid _ := HF.out.trans (Fr.of_below [] b1 (Nat.le_refl _))
    clear b1
    go_wp2
    go_ret
    exact ⟨rfl, H.out⟩
  by_cases k2 : o.kind = 2
  · rw [k2] at HF ⊢
    go_enter Tryz.func7, Tryz.ntmps7
    go_wp2_with fail
    refine Calls.mono (C2.out _) ?_
    rintro e w1 ⟨rfl, b1⟩
    have H : Hid _ := HF.out.trans (Fr.of_below [] b1 (Nat.le_refl _))
    clear b1
    go_wp2
    go_ret
    exact ⟨rfl, H.out⟩
  by_cases k3 : o.kind = 3
  · rw [k3] at HF ⊢
    go_enter Tryz.func7, Tryz.ntmps7
    go_wp2_with fail
    refine Calls.mono (C3.out _) ?_
    rintro e w1 ⟨rfl, b1⟩
    have H : Hid _ := HF.out.trans (Fr.of_below [] b1 (Nat.le_refl _))
    clear b1
    go_wp2
    go_ret
    exact ⟨rfl, H.out⟩
  by_cases k4 : o.kind = 4
  · rw [k4] at HF ⊢
    go_enter Tryz.func7, Tryz.ntmps7
    go_wp2_with fail
    refine Calls.mono (C4.out _) ?_
    rintro e w1 ⟨rfl, b1⟩
    have H : Hid _ := HF.out.trans (Fr.of_below [] b1 (Nat.le_refl _))
    clear b1
    go_wp2
    go_ret
    exact ⟨rfl, H.out⟩
  have b1 : (o.kind == 1) = false := by rw [beq_eq_false_iff_ne]; exact k1
  have b2 : (o.kind == 2) = false := by rw [beq_eq_false_iff_ne]; exact k2
  have b3 : (o.kind == 3) = false := by rw [beq_eq_false_iff_ne]; exact k3
  have b4 : (o.kind == 4) = false := by rw [beq_eq_false_iff_ne]; exact k4
  clear k1 k2 k3 k4 C1 C2 C3 C4
  go_enter Tryz.func7, Tryz.ntmps7
  go_wp2
  go_ret
  exact ⟨rfl, HF.out⟩
set_option maxRecDepth 100000 in
set_option maxHeartbeats 4000000 in
theorem step_plain (gw : Nat) (o : OpA) (hk : o.kind < 10) (hO : OpWf o) (w : World) : Calls Tryz.prog 6 #[ptr gw, .agg (opC o)] w fun e w' => e = .returned (.bool true) ∧ Fr [] w w' := by
  have F0 : Fr [] w (w.alloc (.cells (opC o) 37)) := (Fr.refl _ _).alloc _
  have h1 := plain_any o hO (w.alloc (.cells (opC o) 37))
  have HF : Hid _ := F0
  clear F0
  unfold ptr
  rw [show Value.agg (opC o) = .agg #[.int .i64 o.kind, .int .i64 o.on, .int .i64 o.a, .bool o.yes, .string o.s, .string o.t, .string o.u, .string o.v, .int .i64 o.cs, .int .i64 o.ca, .int .i64 o.cm, .int .i64 o.ra, .int .i64 o.ri, .string o.rn, .string o.rb, .string o.rt] from rfl] at h1 ⊢
  unfold opC at h1
  have H1 : Hid _ := h1
  clear h1 hO
  go_enter Tryz.func6, Tryz.ntmps6
  go_wp2_with fail
  refine Calls.mono H1.out ?_
  rintro e w1 ⟨rfl, hQ⟩
  have HQ : Hid _ := HF.out.trans hQ
  clear hQ
  go_wp2
  go_ret
  exact ⟨rfl, HQ.out⟩
theorem step_t_plain (B gw k : Nat) (L : List Vt → List Rg → List ByteArray → Prop) (o : OpA) (hk : o.kind < 10) (hO : OpWf o) (W : World) (hB : B ≤ W.heap.size) (h : IVt B gw k L W) :
    Calls Tryz.prog 6 #[ptr gw, .agg (opC o)] W fun e w' => e = .returned (.bool true) ∧ IVt B gw (k + 1) L w' ∧ Below B W w' := by
  refine Calls.mono (step_plain gw o hk hO W) ?_
  rintro e w' ⟨rfl, hF⟩
  exact ⟨rfl, (h.fr hF).next, hF.below hB (by simp)⟩
end Go.Proofs.YtgalgjmhdbncbabGreat
