import Derived.Test.YtgalgjmhdbncbabGreatZb41
import Derived.Test.YtgalgjmhdbncbabGreatZb42
import Derived.Test.YtgalgjmhdbncbabGreatZb43
import Derived.Test.YtgalgjmhdbncbabGreatZb00
namespace Go.Proofs.YtgalgjmhdbncbabGreat
open Go.RowKit
attribute [local go_sem ↓] Go.wp_at_zero Go.wp_at_succ

theorem TabIn.fr {w w' : World} {S : Sto} {L : List Nat} (h : TabIn w S) (hf : Fr L w w') (hL : ∀ t, S.tab = some t → t ∉ L) : TabIn w' S := fun t ht => by
  obtain ⟨V, hV⟩ := h t ht
  exact ⟨V, Row.fr hV hf (hL t ht)⟩
theorem create_any (g sx : Nat) (H : Nat → Hd) (S : Sto) (id : Int) (key fix : ByteArray) (s a m : Int) (hk : key.size ≤ maxLen) (hf : fix.size ≤ maxLen) (hl : S.left ≤ 9223372036854775807) (w : World) (h : TabP w g sx H) (hs : StoP w sx S) (ht : TabIn w S) :
    Calls Tryz.prog 28 #[ptr g, .int .i64 id, .string key, .string fix, .agg #[.int .i64 s, .int .i64 a, .int .i64 m]] w fun e w' => ∃ (r : Int) (S' : Sto) (H' : Nat → Hd), e = .returned (.int .i64 r) ∧ createP g S H id key fix s a m r S' H' ∧ StoP w' sx S' ∧ TabP w' g sx H' ∧ Fr [g, sx] w w' := by
  by_cases hov : S.tab = some g
  · by_cases hg : 0 ≤ id ∧ id ≤ 65535 ∧ fix.size = 4 ∧ CfgOk s a m
    · have hg' := hg
      obtain ⟨i1, i2, hf4, ⟨⟨s1, s2⟩, ⟨a1, a2⟩, ⟨m1, m2⟩⟩⟩ := hg'
      obtain ⟨I, rfl⟩ : ∃ I : Nat, id = I := ⟨id.toNat, by omega⟩
      obtain ⟨s, rfl⟩ : ∃ I : Nat, s = I := ⟨s.toNat, by omega⟩
      obtain ⟨a, rfl⟩ : ∃ I : Nat, a = I := ⟨a.toNat, by omega⟩
      obtain ⟨m, rfl⟩ : ∃ I : Nat, m = I := ⟨m.toNat, by omega⟩
      exact create_go g sx H S I key fix s a m hov (by omega) hf4 hg.2.2.2 hk hl w h hs ht
    · refine Calls.mono (create_arg g sx H S id key fix s a m hov hg hf w h hs ht) ?_
      rintro e w' ⟨rfl, hF⟩
      exact ⟨1, S, H, rfl, .inr ⟨hov, .inl ⟨hg, rfl, rfl, rfl⟩⟩, Row.fr hs hF (by simp), Row.fr h hF (by simp), hF.sub (by simp)⟩
  · refine Calls.mono (create_over g sx H S id key fix s a m hov w h hs ht) ?_
    rintro e w' ⟨rfl, hF⟩
    exact ⟨10, S, H, rfl, .inl ⟨hov, rfl, rfl, rfl⟩, Row.fr hs hF (by simp), Row.fr h hF (by simp), hF.sub (by simp)⟩

set_option maxRecDepth 100000 in
set_option maxHeartbeats 8000000 in
theorem lwork_create (w : World) (B gw : Nat) (r : Rg) (v : Vt) (o : OpA) (hk : o.kind = 21) (hs : o.s.size ≤ maxLen) (ht : o.t.size ≤ maxLen) (T : TabB w B r.gx r.gr r.num r.fl r.sh r.hs r.H v.gx v.gr v.S v.R) (Sb : StoB w v.gx v.gr v.gc v.S v.R) (hti : TabIn w v.S) (cz : ∀ j, j < 8 → (v.S.cell j).size ≤ 64) (hB : B ≤ w.heap.size) (hwr : v.R.writes < 4611686018427387904) :
    Calls Tryz.prog 12 #[ptr gw, .agg #[ptr r.gx, ptr r.gr], .agg (opC o)] w fun e w' => e = .returned (.bool true) ∧ ∃ r' v' c, Wrk w w' B r v r' v' ∧ createP r.gx v.S r.H o.a o.s o.t o.cs o.ca o.cm c v'.S r'.H := by
  have h1 := fun w h hp ht' => create_any r.gx v.gx r.H v.S o.a o.s o.t o.cs o.ca o.cm hs ht Sb.l w h hp ht'
  have h2 := fun c S' H' hP w hB t h => rcreate_any B r.gr v.gr v.gc r.num r.fl r.sh r.hs v.S v.R r.gx r.H o.a o.s o.t o.cs o.ca o.cm c S' H' hP T.rel T.ov hwr w hB t h
  have H1 : Hid _ := h1
  have H2 : Hid _ := h2
  clear h1 h2
  have F0 : Fr [] w ((w.alloc (.cells #[.pointer (some ⟨r.gx, 0, none⟩), .pointer (some ⟨r.gr, 0, none⟩)] 50)).alloc (.cells #[.int .i64 21, .int .i64 o.on, .int .i64 o.a, .bool o.yes, .string o.s, .string o.t, .string o.u, .string o.v, .int .i64 o.cs, .int .i64 o.ca, .int .i64 o.cm, .int .i64 o.ra, .int .i64 o.ri, .string o.rn, .string o.rb, .string o.rt] 37)) := ((Fr.refl _ _).alloc _).alloc _
  have q0 : ((w.alloc (.cells #[.pointer (some ⟨r.gx, 0, none⟩), .pointer (some ⟨r.gr, 0, none⟩)] 50)).alloc (.cells #[.int .i64 21, .int .i64 o.on, .int .i64 o.a, .bool o.yes, .string o.s, .string o.t, .string o.u, .string o.v, .int .i64 o.cs, .int .i64 o.ca, .int .i64 o.cm, .int .i64 o.ra, .int .i64 o.ri, .string o.rn, .string o.rb, .string o.rt] 37)).heap[w.heap.size]? = some (.cells #[.pointer (some ⟨r.gx, 0, none⟩), .pointer (some ⟨r.gr, 0, none⟩)] 50 (0, 0)) := heap_of_old _ _ _ _ (by simp) (heap_of_new _ _ _ rfl)
  have q1 : ((w.alloc (.cells #[.pointer (some ⟨r.gx, 0, none⟩), .pointer (some ⟨r.gr, 0, none⟩)] 50)).alloc (.cells #[.int .i64 21, .int .i64 o.on, .int .i64 o.a, .bool o.yes, .string o.s, .string o.t, .string o.u, .string o.v, .int .i64 o.cs, .int .i64 o.ca, .int .i64 o.cm, .int .i64 o.ra, .int .i64 o.ri, .string o.rn, .string o.rb, .string o.rt] 37)).heap[w.heap.size + 1]? = some (.cells #[.int .i64 21, .int .i64 o.on, .int .i64 o.a, .bool o.yes, .string o.s, .string o.t, .string o.u, .string o.v, .int .i64 o.cs, .int .i64 o.ca, .int .i64 o.cm, .int .i64 o.ra, .int .i64 o.ri, .string o.rn, .string o.rb, .string o.rt] 37 (0, 0)) := heap_of_new _ _ _ (by simp)
  have lx := Row.lt T.p
  have ly := Row.lt Sb.p
  have HX : Hid _ := And.intro (Row.fr (L := []) T.p F0 (by simp)) (And.intro (Row.fr (L := []) Sb.p F0 (by simp)) (TabIn.fr hti F0 (by simp)))
  have HF0 : Hid _ := F0
  have HQ : Hid _ := And.intro q0 q1
  have HTB : Hid _ := And.intro T (And.intro Sb (And.intro cz hB))
  clear F0 q0 q1 T Sb hti cz hB hwr
  unfold ptr at *
  rw [show Value.agg (opC o) = .agg #[.int .i64 o.kind, .int .i64 o.on, .int .i64 o.a, .bool o.yes, .string o.s, .string o.t, .string o.u, .string o.v, .int .i64 o.cs, .int .i64 o.ca, .int .i64 o.cm, .int .i64 o.ra, .int .i64 o.ri, .string o.rn, .string o.rb, .string o.rt] from rfl]
  rw [hk]
  have HK : Hid _ := hk
  clear hk
  go_enter Tryz.func12, Tryz.ntmps12
  go_wp2_with fail
  refine (H1.out _ HX.out.1 HX.out.2.1 HX.out.2.2).mono ?_
  rintro e w1 ⟨c, S', H', rfl, hP, p1, tp1, f1⟩
  have F1 := (HF0.out.sub (L' := [r.gx, v.gx]) (by simp)).trans f1
  have k0 := keepRow (g := w.heap.size) f1 HQ.out.1 (by simp; omega)
  have k1 := keepRow (g := w.heap.size + 1) f1 HQ.out.2 (by simp; omega)
  obtain ⟨y0, y1⟩ := cells2 k0
  obtain ⟨z0, z1, z2, z3, z4, z5, z6, z7, z8, z9, z10, z11, z12, z13, z14, z15⟩ := cellsF (o := { o with kind := 21 }) k1
  dsimp only at z0 z1 z2 z3 z4 z5 z6 z7 z8 z9 z10 z11 z12 z13 z14 z15
  obtain ⟨t1, s1⟩ := TabB.refs HTB.out.1 HTB.out.2.1 F1
  have HM : Hid _ := And.intro hP (And.intro p1 (And.intro tp1 (And.intro F1 (And.intro t1 s1))))
  have y9 := F1.size
  clear hP p1 tp1 f1 k0 k1 t1 s1 F1 H1 HX HF0 HQ
  go_wp2_with fail
  refine (H2.out c S' H' HM.out.1 _ (by have := HTB.out.2.2.2; omega) HM.out.2.2.2.2.1 HM.out.2.2.2.2.2).mono ?_
  rintro e w2 ⟨rfl, hR⟩
  have HR : Hid _ := hR
  clear hR H2 y0 y1 z0 z1 z2 z3 z4 z5 z6 z7 z8 z9 z10 z11 z12 z13 z14 z15
  go_wp2_with fail
  refine (lnum_any c _).mono ?_
  rintro e w3 ⟨rfl, hw3⟩
  rw [hw3]
  go_wp2
  go_ret
  obtain ⟨r', v', hW, e1, e2⟩ := Wrk.make HTB.out.1 HTB.out.2.1 HTB.out.2.2.1 (SOk.create HM.out.1) HM.out.2.1 HM.out.2.2.1 HM.out.2.2.2.1 HR.out
  exact ⟨rfl, r', v', c, hW, by rw [e1, e2]; exact HM.out.1⟩
set_option maxRecDepth 100000 in
set_option maxHeartbeats 8000000 in
theorem lwork_retire (w : World) (B gw : Nat) (r : Rg) (v : Vt) (o : OpA) (hk : o.kind = 25) (T : TabB w B r.gx r.gr r.num r.fl r.sh r.hs r.H v.gx v.gr v.S v.R) (Sb : StoB w v.gx v.gr v.gc v.S v.R) (hti : TabIn w v.S) (cz : ∀ j, j < 8 → (v.S.cell j).size ≤ 64) (hB : B ≤ w.heap.size) (hwr : v.R.writes < 4611686018427387904) :
    Calls Tryz.prog 12 #[ptr gw, .agg #[ptr r.gx, ptr r.gr], .agg (opC o)] w fun e w' => e = .returned (.bool true) ∧ ∃ r' v' c, Wrk w w' B r v r' v' ∧ retireP r.gx v.S r.H o.a c v'.S r'.H := by
  have h1 := fun w h hp ht' => retire_any r.gx v.gx r.H v.S o.a T.rel.tok Sb.l w h hp ht'
  have h2 := fun c S' H' hP w t h => rretire_any B r.gr v.gr v.gc r.num r.fl r.sh r.hs v.S v.R r.gx r.H o.a c S' H' hP T.rel T.ov hwr w t h
  have H1 : Hid _ := h1
  have H2 : Hid _ := h2
  have HTK : Hid _ := T.rel.tok
  clear h1 h2
  have F0 : Fr [] w ((w.alloc (.cells #[.pointer (some ⟨r.gx, 0, none⟩), .pointer (some ⟨r.gr, 0, none⟩)] 50)).alloc (.cells #[.int .i64 25, .int .i64 o.on, .int .i64 o.a, .bool o.yes, .string o.s, .string o.t, .string o.u, .string o.v, .int .i64 o.cs, .int .i64 o.ca, .int .i64 o.cm, .int .i64 o.ra, .int .i64 o.ri, .string o.rn, .string o.rb, .string o.rt] 37)) := ((Fr.refl _ _).alloc _).alloc _
  have q0 : ((w.alloc (.cells #[.pointer (some ⟨r.gx, 0, none⟩), .pointer (some ⟨r.gr, 0, none⟩)] 50)).alloc (.cells #[.int .i64 25, .int .i64 o.on, .int .i64 o.a, .bool o.yes, .string o.s, .string o.t, .string o.u, .string o.v, .int .i64 o.cs, .int .i64 o.ca, .int .i64 o.cm, .int .i64 o.ra, .int .i64 o.ri, .string o.rn, .string o.rb, .string o.rt] 37)).heap[w.heap.size]? = some (.cells #[.pointer (some ⟨r.gx, 0, none⟩), .pointer (some ⟨r.gr, 0, none⟩)] 50 (0, 0)) := heap_of_old _ _ _ _ (by simp) (heap_of_new _ _ _ rfl)
  have q1 : ((w.alloc (.cells #[.pointer (some ⟨r.gx, 0, none⟩), .pointer (some ⟨r.gr, 0, none⟩)] 50)).alloc (.cells #[.int .i64 25, .int .i64 o.on, .int .i64 o.a, .bool o.yes, .string o.s, .string o.t, .string o.u, .string o.v, .int .i64 o.cs, .int .i64 o.ca, .int .i64 o.cm, .int .i64 o.ra, .int .i64 o.ri, .string o.rn, .string o.rb, .string o.rt] 37)).heap[w.heap.size + 1]? = some (.cells #[.int .i64 25, .int .i64 o.on, .int .i64 o.a, .bool o.yes, .string o.s, .string o.t, .string o.u, .string o.v, .int .i64 o.cs, .int .i64 o.ca, .int .i64 o.cm, .int .i64 o.ra, .int .i64 o.ri, .string o.rn, .string o.rb, .string o.rt] 37 (0, 0)) := heap_of_new _ _ _ (by simp)
  have lx := Row.lt T.p
  have ly := Row.lt Sb.p
  have HX : Hid _ := And.intro (Row.fr (L := []) T.p F0 (by simp)) (And.intro (Row.fr (L := []) Sb.p F0 (by simp)) (TabIn.fr hti F0 (by simp)))
  have HF0 : Hid _ := F0
  have HQ : Hid _ := And.intro q0 q1
  have HTB : Hid _ := And.intro T (And.intro Sb (And.intro cz hB))
  clear F0 q0 q1 T Sb hti cz hB hwr
  unfold ptr at *
  rw [show Value.agg (opC o) = .agg #[.int .i64 o.kind, .int .i64 o.on, .int .i64 o.a, .bool o.yes, .string o.s, .string o.t, .string o.u, .string o.v, .int .i64 o.cs, .int .i64 o.ca, .int .i64 o.cm, .int .i64 o.ra, .int .i64 o.ri, .string o.rn, .string o.rb, .string o.rt] from rfl]
  rw [hk]
  have HK : Hid _ := hk
  clear hk
  go_enter Tryz.func12, Tryz.ntmps12
  go_wp2_with fail
  refine (H1.out _ HX.out.1 HX.out.2.1 HX.out.2.2).mono ?_
  rintro e w1 ⟨c, S', H', rfl, hP, p1, tp1, f1⟩
  have F1 := (HF0.out.sub (L' := [r.gx, v.gx]) (by simp)).trans f1
  have k0 := keepRow (g := w.heap.size) f1 HQ.out.1 (by simp; omega)
  have k1 := keepRow (g := w.heap.size + 1) f1 HQ.out.2 (by simp; omega)
  obtain ⟨y0, y1⟩ := cells2 k0
  obtain ⟨z0, z1, z2, z3, z4, z5, z6, z7, z8, z9, z10, z11, z12, z13, z14, z15⟩ := cellsF (o := { o with kind := 25 }) k1
  dsimp only at z0 z1 z2 z3 z4 z5 z6 z7 z8 z9 z10 z11 z12 z13 z14 z15
  obtain ⟨t1, s1⟩ := TabB.refs HTB.out.1 HTB.out.2.1 F1
  have HM : Hid _ := And.intro hP (And.intro p1 (And.intro tp1 (And.intro F1 (And.intro t1 s1))))
  clear hP p1 tp1 f1 k0 k1 t1 s1 F1 H1 HX HF0 HQ
  go_wp2_with fail
  refine (H2.out c S' H' HM.out.1 _ HM.out.2.2.2.2.1 HM.out.2.2.2.2.2).mono ?_
  rintro e w2 ⟨rfl, hR⟩
  have HR : Hid _ := hR
  clear hR H2 y0 y1 z0 z1 z2 z3 z4 z5 z6 z7 z8 z9 z10 z11 z12 z13 z14 z15
  go_wp2_with fail
  refine (lnum_any c _).mono ?_
  rintro e w3 ⟨rfl, hw3⟩
  rw [hw3]
  go_wp2
  go_ret
  obtain ⟨r', v', hW, e1, e2⟩ := Wrk.make HTB.out.1 HTB.out.2.1 HTB.out.2.2.1 (SOk.retire HM.out.1 HTK.out) HM.out.2.1 HM.out.2.2.1 HM.out.2.2.2.1 HR.out
  exact ⟨rfl, r', v', c, hW, by rw [e1, e2]; exact HM.out.1⟩
end Go.Proofs.YtgalgjmhdbncbabGreat
namespace Go.Proofs.YtgalgjmhdbncbabGreat
open Go.RowKit
attribute [local go_sem ↓] Go.wp_at_zero Go.wp_at_succ

structure SRg (W : World) (B gw g n : Nat) (sr : Value) (o : OpA) (xs : List Value) : Prop where
  c1 : W.cell? ⟨gw, 1, none⟩ = some sr
  op : W.heap[g]? = some (.cells (opC o) 37 (0, 0))
  ow : W.ownsRow B 50 2 sr n xs
theorem SRg.drew {W : World} {B gw g n : Nat} {sr : Value} {o : OpA} {xs : List Value} (h : SRg W B gw g n sr o xs) : SRg W.drew B gw g n sr o xs := ⟨h.c1, h.op, h.ow⟩
set_option maxRecDepth 100000 in
set_option maxHeartbeats 4000000 in
theorem step_worked (B gw n gv cap : Nat) (sv sr sg sw : Value) (o : OpA) (xs : List Value) (hv : sr = .slice (some ⟨gv, 0, none⟩) n cap) (hk : 20 < o.kind) (hon : -9223372036854775808 ≤ o.on ∧ o.on ≤ 9223372036854775807) (hpos : 0 < n) (hn2 : n ≤ 1152921504606846976)
    (w : World) (hw : Wld w gw sv sr sg sw) (ho : w.ownsRow B 50 2 sr n xs) (Q : World → Prop)
    (hst : ∀ q, q < n → ∀ W, SRg W B gw w.heap.size n sr o xs → Fr [] w W → ∃ gx gr, xs[q * 2]? = some (ptr gx) ∧ xs[q * 2 + 1]? = some (ptr gr) ∧ Calls Tryz.prog 12 #[ptr gw, .agg #[ptr gx, ptr gr], .agg (opC o)] W fun e w' => e = .returned (.bool true) ∧ SRg w' B gw w.heap.size n sr o xs ∧ Q w') :
    Calls Tryz.prog 6 #[ptr gw, .agg (opC o)] w fun e w' => e = .returned (.bool true) ∧ Q w' := by
  subst hv
  have hlt := hw.lt
  have W0 : Wld (w.alloc (.cells (opC o) 37)) gw sv (.slice (some ⟨gv, 0, none⟩) n cap) sg sw := heap_of_old _ _ _ _ hlt hw
  have S0 : SRg (w.alloc (.cells (opC o) 37)) B gw w.heap.size n (.slice (some ⟨gv, 0, none⟩) n cap) o xs := ⟨W0.cells.2.1, heap_of_new _ _ _ rfl, World.ownsRow.alloc ho _⟩
  have F0 : Fr [] w (w.alloc (.cells (opC o) 37)) := (Fr.refl _ _).alloc _
  obtain ⟨c0, c1, c2, c3⟩ := W0.cells
  unfold opC at c0 c1 c2 c3
  have HS : Hid _ := S0
  have HF : Hid _ := F0
  have HT : Hid _ := hst
  clear S0 F0 hst ho W0
  have k1 : ¬ (o.kind < 10) := by omega
  have k2 : (o.kind == 10) = false := by rw [beq_eq_false_iff_ne]; omega
  have k3 : ¬ (o.kind < 20) := by omega
  have k4 : (o.kind == 20) = false := by rw [beq_eq_false_iff_ne]; omega
  unfold ptr
  rw [show Value.agg (opC o) = .agg #[.int .i64 o.kind, .int .i64 o.on, .int .i64 o.a, .bool o.yes, .string o.s, .string o.t, .string o.u, .string o.v, .int .i64 o.cs, .int .i64 o.ca, .int .i64 o.cm, .int .i64 o.ra, .int .i64 o.ri, .string o.rn, .string o.rb, .string o.rt] from rfl]
  go_enter Tryz.func6, Tryz.ntmps6
  go_wp2_with fail
  suffices H : ∀ W, SRg W B gw w.heap.size n (.slice (some ⟨gv, 0, none⟩) n cap) o xs → Fr [] w W → Code.wp Tryz.prog _ _ _ W from H _ HS.out HF.out
  clear HS HF c0 c1 c2 c3 hw
  intro W S1 F1
  refine wp_region_held_drew (S := fun W' => SRg W' B gw w.heap.size n (.slice (some ⟨gv, 0, none⟩) n cap) o xs) (by kernel_rfl) S1.drew (fun hHeld => ?_)
  refine tp 0 _ ?r1
  refine tp 1 _ ?r2
  refine tp 2 _ ?r3
  refine tp 3 _ ?r4
  refine tk 4 ?v5 ?y5 ?r5
  case y5 => (intro W' hW; have c1 := hW.c1; go_simp; try with_reducible rfl)
  refine tp 5 _ ?r6
  refine tk 6 ?v7 ?y7 ?r7
  case y7 => (intro W' hW; obtain ⟨z0, z1, z2, z3, z4, z5⟩ := cellsO hW.op; go_simp; try with_reducible rfl)
  refine tp 7 _ ?r8
  refine tp 8 _ ?r9
  refine tp 9 _ ?r10
  refine tk 10 ?v11 ?y11 ?r11
  case y11 => (intro W' hW; have c1 := hW.c1; go_simp; try with_reducible rfl)
  refine tp 11 _ ?r12
  refine tk 15 ?v13 ?y13 ?r13
  case y13 => (intro W' hW; obtain ⟨z0, z1, z2, z3, z4, z5, z6, z7, z8, z9, z10, z11, z12, z13, z14, z15⟩ := cellsF hW.op; go_simp; try with_reducible rfl)
  refine wpAnyH_ready (rs := [12]) (by kernel_rfl) (by simp) ?_
  refine AllReadyH.cons rfl (fun K hK => ?_) ?nil12
  case nil12 => exact AllReadyH.nil
  go_simp
  refine (lpick_any o.on n hon.1 hon.2 hpos hn2 _).mono ?_
  rintro e wa ⟨⟨q, hq, rfl⟩, hw⟩
  subst hw
  obtain ⟨gx, gr, e1, e2, hcall⟩ := HT.out q hq _ S1.drew F1.drew
  have E1 : Hid _ := e1
  have E2 : Hid _ := e2
  have HC : Hid _ := hcall
  clear e1 e2 hcall
  go_wp2_with fail
  refine hK.out _ _ hHeld (fun hHeld => ?_)
  clear hK K
  refine tp 13 _ ?r14
  refine tk 14 ?v15 ?y15 ?r15
  case y15 => (intro W' hW; have he0 := (World.ownsRow.cellAt hW.ow (q * 2) (by omega)).trans E1.out; have he1 := (World.ownsRow.cellAt hW.ow (q * 2 + 1) (by omega)).trans E2.out; go_simp; try with_reducible rfl)
  refine wpAnyH_ready (rs := [16]) (by kernel_rfl) (by simp) ?_
  refine AllReadyH.cons rfl (fun K hK => ?_) ?nil16
  case nil16 => exact AllReadyH.nil
  go_simp
  refine Calls.mono HC.out ?_
  rintro e wb ⟨rfl, hS2, hQ⟩
  go_wp2_with fail
  refine hK.out _ _ hS2 (fun hHeld => ?_)
  clear hK K
  refine tp 17 _ ?r16
  refine wpAnyH_done (by kernel_rfl) ?_ _
  go_wp2
  go_ret
  exact ⟨rfl, hQ⟩
end Go.Proofs.YtgalgjmhdbncbabGreat
