import Derived.Test.YtgalgjmhdbncbabGreatZb00
import Derived.Test.YtgalgjmhdbncbabGreatZb44
import Derived.Deep.OwnRows
namespace Go.Proofs.YtgalgjmhdbncbabGreat
open Go.RowKit
attribute [local go_sem ↓] Go.wp_at_zero Go.wp_at_succ

theorem TabB.fr0 {w w' : World} {B gx gr num sx gs : Nat} {fl : Bool} {sh : Value} {hs : List Rh} {H : Nat → Hd} {S : Sto} {R : RSt} (h : TabB w B gx gr num fl sh hs H sx gs S R) (hf : Fr [] w w') : TabB w' B gx gr num fl sh hs H sx gs S R := h.fr hf (by simp) (by simp) (by simp)
theorem StoB.fr0 {w w' : World} {gx gr gc : Nat} {S : Sto} {R : RSt} (h : StoB w gx gr gc S R) (hf : Fr [] w w') : StoB w' gx gr gc S R := StoB.fr h hf (by simp) (by simp) (by simp)
theorem TabIn.fr0 {w w' : World} {S : Sto} (h : TabIn w S) (hf : Fr [] w w') : TabIn w' S := h.fr hf (by simp)
set_option maxRecDepth 100000 in
set_option maxHeartbeats 8000000 in
theorem lreopen_any (w : World) (B : Nat) (r : Rg) (v : Vt) (rec m : ByteArray) (hrz : rec.size ≤ maxLen) (hmz : m.size ≤ maxLen) (T : TabB w B r.gx r.gr r.num r.fl r.sh r.hs r.H v.gx v.gr v.S v.R) (Sb : StoB w v.gx v.gr v.gc v.S v.R) (hti : TabIn w v.S) :
    Calls Tryz.prog 32 #[.agg #[ptr r.gx, ptr r.gr], .string rec, .string m] w fun e w' => e = .returned (.bool true) ∧ Fr [] w w' := by
  have h1 := fun w h hp ht' => topen_any r.gx v.gx r.H v.S rec m T.rel.tok hrz w h hp ht'
  have h2 := fun s c hP w t h => ropen_any B r.gr v.gr v.gc r.num r.fl r.sh r.hs v.S v.R r.gx r.H rec m s c hP T.rel T.ov hrz hmz w t h
  have H1 : Hid _ := h1
  have H2 : Hid _ := h2
  have F0 : Fr [] w (w.alloc (.cells #[ptr r.gx, ptr r.gr] 50)) := (Fr.refl _ _).alloc _
  have q0 : (w.alloc (.cells #[ptr r.gx, ptr r.gr] 50)).heap[w.heap.size]? = some (.cells #[ptr r.gx, ptr r.gr] 50 (0, 0)) := heap_of_new _ _ _ rfl
  have HX : Hid _ := And.intro (T.fr0 F0) (And.intro (Sb.fr0 F0) (hti.fr0 F0))
  have HF0 : Hid _ := F0
  have HQ : Hid _ := q0
  clear h1 h2 F0 q0 T Sb hti
  unfold ptr at *
  go_enter Tryz.func32, Tryz.ntmps32
  go_wp2_with fail
  refine (H1.out _ HX.out.1.p HX.out.2.1.p HX.out.2.2).mono ?_
  rintro e w1 ⟨⟨s, c, rfl, hP⟩, f1⟩
  have HT : Hid _ := And.intro (HX.out.1.fr0 f1).r (HX.out.2.1.fr0 f1).r
  have F1 := HF0.out.trans f1
  obtain ⟨y0, y1⟩ := cells2 (keepRow f1 HQ.out (by simp))
  have HP : Hid _ := hP
  clear hP f1 HX HF0 HQ H1
  go_wp2_with fail
  refine (H2.out s c HP.out _ HT.out.1 HT.out.2).mono ?_
  rintro e w2 ⟨rfl, b2⟩
  have F2 := F1.trans (Fr.of_below [] b2 (Nat.le_refl _))
  clear b2 F1 y0 y1 HT H2
  go_wp2_with fail
  refine (lnum_any c _).mono ?_
  rintro e w3 ⟨rfl, hw3⟩
  rw [hw3]
  go_wp2
  go_ret
  exact ⟨rfl, F2⟩
set_option maxRecDepth 100000 in
set_option maxHeartbeats 8000000 in
theorem lwork_open (w : World) (B gw : Nat) (r : Rg) (v : Vt) (o : OpA) (hk : o.kind = 23) (hs : o.s.size ≤ maxLen) (ht : o.t.size ≤ maxLen) (T : TabB w B r.gx r.gr r.num r.fl r.sh r.hs r.H v.gx v.gr v.S v.R) (Sb : StoB w v.gx v.gr v.gc v.S v.R) (hti : TabIn w v.S) :
    Calls Tryz.prog 12 #[ptr gw, .agg #[ptr r.gx, ptr r.gr], .agg (opC o)] w fun e w' => e = .returned (.bool true) ∧ Fr [] w w' := by
  have F0 : Fr [] w ((w.alloc (.cells #[.pointer (some ⟨r.gx, 0, none⟩), .pointer (some ⟨r.gr, 0, none⟩)] 50)).alloc (.cells #[.int .i64 23, .int .i64 o.on, .int .i64 o.a, .bool o.yes, .string o.s, .string o.t, .string o.u, .string o.v, .int .i64 o.cs, .int .i64 o.ca, .int .i64 o.cm, .int .i64 o.ra, .int .i64 o.ri, .string o.rn, .string o.rb, .string o.rt] 37)) := ((Fr.refl _ _).alloc _).alloc _
  have q0 : ((w.alloc (.cells #[.pointer (some ⟨r.gx, 0, none⟩), .pointer (some ⟨r.gr, 0, none⟩)] 50)).alloc (.cells #[.int .i64 23, .int .i64 o.on, .int .i64 o.a, .bool o.yes, .string o.s, .string o.t, .string o.u, .string o.v, .int .i64 o.cs, .int .i64 o.ca, .int .i64 o.cm, .int .i64 o.ra, .int .i64 o.ri, .string o.rn, .string o.rb, .string o.rt] 37)).heap[w.heap.size]? = some (.cells #[.pointer (some ⟨r.gx, 0, none⟩), .pointer (some ⟨r.gr, 0, none⟩)] 50 (0, 0)) := heap_of_old _ _ _ _ (by simp) (heap_of_new _ _ _ rfl)
  have q1 : ((w.alloc (.cells #[.pointer (some ⟨r.gx, 0, none⟩), .pointer (some ⟨r.gr, 0, none⟩)] 50)).alloc (.cells #[.int .i64 23, .int .i64 o.on, .int .i64 o.a, .bool o.yes, .string o.s, .string o.t, .string o.u, .string o.v, .int .i64 o.cs, .int .i64 o.ca, .int .i64 o.cm, .int .i64 o.ra, .int .i64 o.ri, .string o.rn, .string o.rb, .string o.rt] 37)).heap[w.heap.size + 1]? = some (.cells #[.int .i64 23, .int .i64 o.on, .int .i64 o.a, .bool o.yes, .string o.s, .string o.t, .string o.u, .string o.v, .int .i64 o.cs, .int .i64 o.ca, .int .i64 o.cm, .int .i64 o.ra, .int .i64 o.ri, .string o.rn, .string o.rb, .string o.rt] 37 (0, 0)) := heap_of_new _ _ _ (by simp)
  have h1 := lreopen_any _ B r v o.s o.t hs ht (T.fr0 F0) (Sb.fr0 F0) (hti.fr0 F0)
  unfold ptr at *
  rw [show Value.agg (opC o) = .agg #[.int .i64 o.kind, .int .i64 o.on, .int .i64 o.a, .bool o.yes, .string o.s, .string o.t, .string o.u, .string o.v, .int .i64 o.cs, .int .i64 o.ca, .int .i64 o.cm, .int .i64 o.ra, .int .i64 o.ri, .string o.rn, .string o.rb, .string o.rt] from rfl]
  rw [hk]
  have H1 : Hid _ := h1
  have HF0 : Hid _ := F0
  clear hk F0 h1 q0 q1 T Sb hti
  go_enter Tryz.func12, Tryz.ntmps12
  go_wp2_with fail
  refine Calls.mono H1.out ?_
  rintro e w1 ⟨rfl, f1⟩
  have F1 := HF0.out.trans f1
  clear f1
  go_wp2
  go_ret
  exact ⟨rfl, F1⟩
set_option maxRecDepth 100000 in
set_option maxHeartbeats 8000000 in
theorem lwork_status (w : World) (B gw : Nat) (r : Rg) (v : Vt) (o : OpA) (hk : o.kind = 26) (T : TabB w B r.gx r.gr r.num r.fl r.sh r.hs r.H v.gx v.gr v.S v.R) :
    Calls Tryz.prog 12 #[ptr gw, .agg #[ptr r.gx, ptr r.gr], .agg (opC o)] w fun e w' => e = .returned (.bool true) ∧ Fr [] w w' := by
  have F0 : Fr [] w ((w.alloc (.cells #[.pointer (some ⟨r.gx, 0, none⟩), .pointer (some ⟨r.gr, 0, none⟩)] 50)).alloc (.cells #[.int .i64 26, .int .i64 o.on, .int .i64 o.a, .bool o.yes, .string o.s, .string o.t, .string o.u, .string o.v, .int .i64 o.cs, .int .i64 o.ca, .int .i64 o.cm, .int .i64 o.ra, .int .i64 o.ri, .string o.rn, .string o.rb, .string o.rt] 37)) := ((Fr.refl _ _).alloc _).alloc _
  have q0 : ((w.alloc (.cells #[.pointer (some ⟨r.gx, 0, none⟩), .pointer (some ⟨r.gr, 0, none⟩)] 50)).alloc (.cells #[.int .i64 26, .int .i64 o.on, .int .i64 o.a, .bool o.yes, .string o.s, .string o.t, .string o.u, .string o.v, .int .i64 o.cs, .int .i64 o.ca, .int .i64 o.cm, .int .i64 o.ra, .int .i64 o.ri, .string o.rn, .string o.rb, .string o.rt] 37)).heap[w.heap.size]? = some (.cells #[.pointer (some ⟨r.gx, 0, none⟩), .pointer (some ⟨r.gr, 0, none⟩)] 50 (0, 0)) := heap_of_old _ _ _ _ (by simp) (heap_of_new _ _ _ rfl)
  have q1 : ((w.alloc (.cells #[.pointer (some ⟨r.gx, 0, none⟩), .pointer (some ⟨r.gr, 0, none⟩)] 50)).alloc (.cells #[.int .i64 26, .int .i64 o.on, .int .i64 o.a, .bool o.yes, .string o.s, .string o.t, .string o.u, .string o.v, .int .i64 o.cs, .int .i64 o.ca, .int .i64 o.cm, .int .i64 o.ra, .int .i64 o.ri, .string o.rn, .string o.rb, .string o.rt] 37)).heap[w.heap.size + 1]? = some (.cells #[.int .i64 26, .int .i64 o.on, .int .i64 o.a, .bool o.yes, .string o.s, .string o.t, .string o.u, .string o.v, .int .i64 o.cs, .int .i64 o.ca, .int .i64 o.cm, .int .i64 o.ra, .int .i64 o.ri, .string o.rn, .string o.rb, .string o.rt] 37 (0, 0)) := heap_of_new _ _ _ (by simp)
  have h1 := status_any r.gx v.gx r.H o.a _ (T.fr0 F0).p
  have h2 := fun w t => rstatus_any B r.gr v.gr r.num r.fl r.sh r.hs r.H o.a T.rel w t
  have t0 := (T.fr0 F0).r
  have huq : ∀ i j, i < 8 → j < 8 → hit r.H o.a i → hit r.H o.a j → i = j := fun i j hi hj h1 h2 => T.rel.uq i j hi hj h1.1 h2.1 (by have := h1.2; have := h2.2; omega)
  have hsame : ∃ (a c x : Int) (b : Bool) (n : Int), ((∃ i, i < 8 ∧ hit r.H o.a i ∧ stA (r.H i).c.alg (r.H i).ctr (r.H i).c.res (decide ((r.H i).c.st = 2)) = stA a c x b ∧ n = 0) ∨ ((∀ j, j < 8 → ¬ hit r.H o.a j) ∧ stA 0 0 0 false = stA a c x b ∧ n = 11)) := by
    by_cases h : ∃ i, i < 8 ∧ hit r.H o.a i
    · obtain ⟨i, hi, hh⟩ := h
      exact ⟨_, _, _, _, _, .inl ⟨i, hi, hh, rfl, rfl⟩⟩
    · exact ⟨_, _, _, _, _, .inr ⟨fun j hj hh => h ⟨j, hj, hh⟩, rfl, rfl⟩⟩
  obtain ⟨a, c, x, b, n, hS⟩ := hsame
  have h1' : Calls Tryz.prog 35 #[ptr r.gx, .int .i64 o.a] ((w.alloc (.cells #[.pointer (some ⟨r.gx, 0, none⟩), .pointer (some ⟨r.gr, 0, none⟩)] 50)).alloc (.cells #[.int .i64 26, .int .i64 o.on, .int .i64 o.a, .bool o.yes, .string o.s, .string o.t, .string o.u, .string o.v, .int .i64 o.cs, .int .i64 o.ca, .int .i64 o.cm, .int .i64 o.ra, .int .i64 o.ri, .string o.rn, .string o.rb, .string o.rt] 37)) fun e w' => e = .returned (.tuple #[.agg (stA a c x b), .int .i64 n]) ∧ Below ((w.alloc (.cells #[.pointer (some ⟨r.gx, 0, none⟩), .pointer (some ⟨r.gr, 0, none⟩)] 50)).alloc (.cells #[.int .i64 26, .int .i64 o.on, .int .i64 o.a, .bool o.yes, .string o.s, .string o.t, .string o.u, .string o.v, .int .i64 o.cs, .int .i64 o.ca, .int .i64 o.cm, .int .i64 o.ra, .int .i64 o.ri, .string o.rn, .string o.rb, .string o.rt] 37)).heap.size ((w.alloc (.cells #[.pointer (some ⟨r.gx, 0, none⟩), .pointer (some ⟨r.gr, 0, none⟩)] 50)).alloc (.cells #[.int .i64 26, .int .i64 o.on, .int .i64 o.a, .bool o.yes, .string o.s, .string o.t, .string o.u, .string o.v, .int .i64 o.cs, .int .i64 o.ca, .int .i64 o.cm, .int .i64 o.ra, .int .i64 o.ri, .string o.rn, .string o.rb, .string o.rt] 37)) w' := by
    refine Calls.mono h1 ?_
    rintro e w' ⟨⟨i, hi, hh, _, rfl⟩ | ⟨hn, rfl⟩, hb⟩
    · rcases hS with ⟨j, hj, hj2, e1, e2⟩ | ⟨hn, _⟩
      · have := huq i j hi hj hh hj2
        subst this
        exact ⟨by rw [e1, e2], hb⟩
      · exact absurd hh (hn i hi)
    · rcases hS with ⟨j, hj, hj2, _⟩ | ⟨_, e1, e2⟩
      · exact absurd hj2 (hn j hj)
      · exact ⟨by rw [e1, e2], hb⟩
  have h2' : ∀ w, TabR w B r.gr v.gr r.num r.fl r.sh r.hs → Calls Tryz.prog 36 #[ptr r.gr, .int .i64 o.a] w fun e w' => e = .returned (.tuple #[.agg (stA a c x b), .int .i64 n]) ∧ Below w.heap.size w w' := by
    intro w t
    refine Calls.mono (h2 w t) ?_
    rintro e w' ⟨⟨i, hi, hh, rfl⟩ | ⟨hn, rfl⟩, hb⟩
    · rcases hS with ⟨j, hj, hj2, e1, e2⟩ | ⟨hn, _⟩
      · have := huq i j hi hj hh hj2
        subst this
        exact ⟨by rw [e1, e2], hb⟩
      · exact absurd hh (hn i hi)
    · rcases hS with ⟨j, hj, hj2, _⟩ | ⟨_, e1, e2⟩
      · exact absurd hj2 (hn j hj)
      · exact ⟨by rw [e1, e2], hb⟩
  clear h1 h2 hS huq
  unfold ptr at *
  unfold stA at h1' h2'
  rw [show Value.agg (opC o) = .agg #[.int .i64 o.kind, .int .i64 o.on, .int .i64 o.a, .bool o.yes, .string o.s, .string o.t, .string o.u, .string o.v, .int .i64 o.cs, .int .i64 o.ca, .int .i64 o.cm, .int .i64 o.ra, .int .i64 o.ri, .string o.rn, .string o.rb, .string o.rt] from rfl]
  rw [hk]
  have H1 : Hid _ := h1'
  have H2 : Hid _ := h2'
  have HF0 : Hid _ := F0
  have HT0 : Hid _ := t0
  have HQ : Hid _ := And.intro q0 q1
  clear hk F0 h1' h2' q0 q1 T t0
  go_enter Tryz.func12, Tryz.ntmps12
  go_wp2_with fail
  refine Calls.mono H1.out ?_
  rintro e w1 ⟨rfl, b1⟩
  have k0 : w1.heap[w.heap.size]? = some (.cells #[.pointer (some ⟨r.gx, 0, none⟩), .pointer (some ⟨r.gr, 0, none⟩)] 50 (0, 0)) := keepRow (Fr.of_below [] b1 (Nat.le_refl _)) HQ.out.1 (by simp)
  have k1 : w1.heap[w.heap.size + 1]? = some (.cells #[.int .i64 26, .int .i64 o.on, .int .i64 o.a, .bool o.yes, .string o.s, .string o.t, .string o.u, .string o.v, .int .i64 o.cs, .int .i64 o.ca, .int .i64 o.cm, .int .i64 o.ra, .int .i64 o.ri, .string o.rn, .string o.rb, .string o.rt] 37 (0, 0)) := keepRow (Fr.of_below [] b1 (Nat.le_refl _)) HQ.out.2 (by simp)
  have F1 := HF0.out.trans (Fr.of_below [] b1 (Nat.le_refl _))
  have t1 := HT0.out.below b1
  have F2 := F1.alloc (.cells #[.int .i64 a, .int .i64 c, .int .i64 x, .bool b] 77)
  have t2 := t1.fr ((Fr.refl [] w1).alloc (.cells #[.int .i64 a, .int .i64 c, .int .i64 x, .bool b] 77)) (by simp) (by simp)
  obtain ⟨y0, y1⟩ := cells2 (keep_alloc (.cells #[.int .i64 a, .int .i64 c, .int .i64 x, .bool b] 77) k0)
  obtain ⟨z0, z1, z2, z3, z4, z5, z6, z7, z8, z9, z10, z11, z12, z13, z14, z15⟩ := cellsF (o := { o with kind := 26 }) (keep_alloc (.cells #[.int .i64 a, .int .i64 c, .int .i64 x, .bool b] 77) k1)
  dsimp only at z0 z1 z2 z3 z4 z5 z6 z7 z8 z9 z10 z11 z12 z13 z14 z15
  have r1 : (w1.alloc (.cells #[.int .i64 a, .int .i64 c, .int .i64 x, .bool b] 77)).heap[w1.heap.size]? = some (.cells #[.int .i64 a, .int .i64 c, .int .i64 x, .bool b] 77 (0, 0)) := heap_of_new _ _ _ rfl
  have HC : Hid _ := And.intro F2 (And.intro t2 r1)
  clear b1 F1 F2 t1 t2 k0 k1 HQ HF0 HT0 H1 r1
  go_wp2_with fail
  refine (H2.out _ HC.out.2.1).mono ?_
  rintro e w2 ⟨rfl, b2⟩
  have F3 := HC.out.1.trans (Fr.of_below [] b2 (Nat.le_refl _))
  have r2 := keepRow (Fr.of_below [] b2 (Nat.le_refl _)) HC.out.2.2 (by simp)
  have r3 := keep_alloc (.cells #[.int .i64 a, .int .i64 c, .int .i64 x, .bool b] 77) r2
  obtain ⟨u0, u1, u2, u3⟩ := cells4' r3
  have F4 := F3.alloc (.cells #[.int .i64 a, .int .i64 c, .int .i64 x, .bool b] 77)
  have HF4 : Hid _ := F4
  clear b2 F3 HC r2 r3 y0 y1 z0 z1 z2 z3 z4 z5 z6 z7 z8 z9 z10 z11 z12 z13 z14 z15 H2 F4
  go_wp2_with fail
  refine (lnum_any n _).mono ?_
  rintro e w3 ⟨rfl, hw3⟩
  rw [hw3]
  go_wp2
  go_ret
  exact ⟨rfl, HF4.out⟩

structure LA (W : World) (B gw n0 : Nat) (r : Rg) (sg sw : Value) (o : OpA) (gi wi : List ByteArray) : Prop where
  rb : W.heap[n0]? = some (.cells #[.pointer (some ⟨r.gx, 0, none⟩), .pointer (some ⟨r.gr, 0, none⟩)] 50 (0, 0))
  op : W.heap[n0 + 1]? = some (.cells (opC o) 37 (0, 0))
  c2 : W.cell? ⟨gw, 2, none⟩ = some sg
  c3 : W.cell? ⟨gw, 3, none⟩ = some sw
  og : W.ownsRow B 9 1 sg gi.length (gi.map .string)
  ox : W.ownsRow B 9 1 sw wi.length (wi.map .string)
theorem LA.drew {W : World} {B gw n0 : Nat} {r : Rg} {sg sw : Value} {o : OpA} {gi wi : List ByteArray} (h : LA W B gw n0 r sg sw o gi wi) : LA W.drew B gw n0 r sg sw o gi wi := ⟨h.rb, h.op, h.c2, h.c3, h.og, h.ox⟩
theorem LA.fr {W W' : World} {B gw n0 : Nat} {r : Rg} {sg sw : Value} {o : OpA} {gi wi : List ByteArray} (h : LA W B gw n0 r sg sw o gi wi) (hf : Fr [] W W') : LA W' B gw n0 r sg sw o gi wi := by
  have l2 := World.block_lt_of_cell? _ _ h.c2
  have l3 := World.block_lt_of_cell? _ _ h.c3
  exact ⟨keepRow hf h.rb (by simp), keepRow hf h.op (by simp), by rw [World.cell?_of_block (w := W) (hf.block gw l2 (by simp))]; exact h.c2, by rw [World.cell?_of_block (w := W) (hf.block gw l3 (by simp))]; exact h.c3, ownsFr h.og hf (by simp), ownsFr h.ox hf (by simp)⟩
set_option maxRecDepth 100000 in
set_option maxHeartbeats 8000000 in
theorem lwork_again (w : World) (B gw : Nat) (r : Rg) (v : Vt) (o : OpA) (sv sr sg sw : Value) (gi wi : List ByteArray) (hk : o.kind = 24) (ha : -9223372036854775808 ≤ o.a ∧ o.a ≤ 9223372036854775807) (hs : o.s.size ≤ 140737488351232) (hw : Wld w gw sv sr sg sw) (hog : w.ownsRow B 9 1 sg gi.length (gi.map .string)) (hox : w.ownsRow B 9 1 sw wi.length (wi.map .string)) (hle : gi.length = wi.length) (hln : gi.length ≤ 1152921504606846976)
    (hgz : ∀ (i : Nat) s, gi[i]? = some s → s.size ≤ 1000) (hwz : ∀ (i : Nat) s, wi[i]? = some s → s.size ≤ 1000) (T : TabB w B r.gx r.gr r.num r.fl r.sh r.hs r.H v.gx v.gr v.S v.R) (Sb : StoB w v.gx v.gr v.gc v.S v.R) (hti : TabIn w v.S) :
    Calls Tryz.prog 12 #[ptr gw, .agg #[ptr r.gx, ptr r.gr], .agg (opC o)] w fun e w' => e = .returned (.bool true) ∧ Fr [] w w' := by
  have F0 : Fr [] w ((w.alloc (.cells #[.pointer (some ⟨r.gx, 0, none⟩), .pointer (some ⟨r.gr, 0, none⟩)] 50)).alloc (.cells #[.int .i64 24, .int .i64 o.on, .int .i64 o.a, .bool o.yes, .string o.s, .string o.t, .string o.u, .string o.v, .int .i64 o.cs, .int .i64 o.ca, .int .i64 o.cm, .int .i64 o.ra, .int .i64 o.ri, .string o.rn, .string o.rb, .string o.rt] 37)) := ((Fr.refl _ _).alloc _).alloc _
  have q0 : ((w.alloc (.cells #[.pointer (some ⟨r.gx, 0, none⟩), .pointer (some ⟨r.gr, 0, none⟩)] 50)).alloc (.cells #[.int .i64 24, .int .i64 o.on, .int .i64 o.a, .bool o.yes, .string o.s, .string o.t, .string o.u, .string o.v, .int .i64 o.cs, .int .i64 o.ca, .int .i64 o.cm, .int .i64 o.ra, .int .i64 o.ri, .string o.rn, .string o.rb, .string o.rt] 37)).heap[w.heap.size]? = some (.cells #[.pointer (some ⟨r.gx, 0, none⟩), .pointer (some ⟨r.gr, 0, none⟩)] 50 (0, 0)) := heap_of_old _ _ _ _ (by simp) (heap_of_new _ _ _ rfl)
  have q1 : ((w.alloc (.cells #[.pointer (some ⟨r.gx, 0, none⟩), .pointer (some ⟨r.gr, 0, none⟩)] 50)).alloc (.cells #[.int .i64 24, .int .i64 o.on, .int .i64 o.a, .bool o.yes, .string o.s, .string o.t, .string o.u, .string o.v, .int .i64 o.cs, .int .i64 o.ca, .int .i64 o.cm, .int .i64 o.ra, .int .i64 o.ri, .string o.rn, .string o.rb, .string o.rt] 37)).heap[w.heap.size + 1]? = some (.cells #[.int .i64 24, .int .i64 o.on, .int .i64 o.a, .bool o.yes, .string o.s, .string o.t, .string o.u, .string o.v, .int .i64 o.cs, .int .i64 o.ca, .int .i64 o.cm, .int .i64 o.ra, .int .i64 o.ri, .string o.rn, .string o.rb, .string o.rt] 37 (0, 0)) := heap_of_new _ _ _ (by simp)
  have hw0 := hw.fr F0 (by simp)
  obtain ⟨c0, c1, c2, c3⟩ := hw0.cells
  by_cases h0 : gi.length = 0
  · have hsg : sg = .slice none 0 0 ∨ ∃ g cap, sg = .slice (some ⟨g, 0, none⟩) 0 cap := by
      rcases hog.2 with ⟨h, _⟩ | ⟨g, cap, cur, h, _⟩
      · exact .inl h
      · rw [h0] at h; exact .inr ⟨g, cap, h⟩
    unfold ptr at *
    rw [show Value.agg (opC o) = .agg #[.int .i64 o.kind, .int .i64 o.on, .int .i64 o.a, .bool o.yes, .string o.s, .string o.t, .string o.u, .string o.v, .int .i64 o.cs, .int .i64 o.ca, .int .i64 o.cm, .int .i64 o.ra, .int .i64 o.ri, .string o.rn, .string o.rb, .string o.rt] from rfl]
    rw [hk]
    have HF0 : Hid _ := F0
    clear hk F0 q0 q1 T Sb hti hw hw0 c0 c1 c3 hog hox hgz hwz h0 hle
    rcases hsg with rfl | ⟨g, cap, rfl⟩
    · go_enter Tryz.func12, Tryz.ntmps12
      go_wp2
      go_ret
      exact ⟨rfl, HF0.out⟩
    · go_enter Tryz.func12, Tryz.ntmps12
      go_wp2
      go_ret
      exact ⟨rfl, HF0.out⟩
  · have L0 : LA ((w.alloc (.cells #[.pointer (some ⟨r.gx, 0, none⟩), .pointer (some ⟨r.gr, 0, none⟩)] 50)).alloc (.cells #[.int .i64 24, .int .i64 o.on, .int .i64 o.a, .bool o.yes, .string o.s, .string o.t, .string o.u, .string o.v, .int .i64 o.cs, .int .i64 o.ca, .int .i64 o.cm, .int .i64 o.ra, .int .i64 o.ri, .string o.rn, .string o.rb, .string o.rt] 37)) B gw w.heap.size r sg sw { o with kind := 24 } gi wi := ⟨q0, q1, c2, c3, ownsFr hog F0 (by simp), ownsFr hox F0 (by simp)⟩
    obtain ⟨gg, capg, rfl, _, _⟩ := World.ownsRow.form hog (by omega)
    obtain ⟨gx, capx, rfl, _, _⟩ := World.ownsRow.form hox (by omega)
    have h1 := fun W rec m hrz hmz hF => lreopen_any W B r v rec m hrz hmz (T.fr0 hF) (Sb.fr0 hF) (hti.fr0 hF)
    have hpos : 0 < gi.length := by omega
    have hpk := fun W => lpick_any o.a gi.length ha.1 ha.2 hpos hln W
    have HPK : Hid _ := hpk
    have HL0 : Hid _ := L0
    unfold ptr at h1
    have H1 : Hid _ := h1
    have HLE : Hid _ := hle
    have HGZ : Hid _ := hgz
    have HWZ : Hid _ := hwz
    have HSZ : Hid _ := hs
    have HP0 : Hid _ := hpos
    have HF0 : Hid _ := F0
    have hlw : wi.length = gi.length := hle.symm
    rw [hlw] at c3 HL0
    unfold ptr
    rw [show Value.agg (opC o) = .agg #[.int .i64 o.kind, .int .i64 o.on, .int .i64 o.a, .bool o.yes, .string o.s, .string o.t, .string o.u, .string o.v, .int .i64 o.cs, .int .i64 o.ca, .int .i64 o.cm, .int .i64 o.ra, .int .i64 o.ri, .string o.rn, .string o.rb, .string o.rt] from rfl]
    rw [hk]
    have hne : ((gi.length : Int) == 0) = false := by rw [beq_eq_false_iff_ne]; omega
    have HNE : Hid _ := hne
    clear hk F0 q0 q1 T Sb hti hw hw0 c0 c1 hog hox hgz hwz h0 hle L0 h1 hpk hs hlw hpos ha
    go_enter Tryz.func12, Tryz.ntmps12
    go_wp2_with fail
    refine (HPK.out _).mono ?_
    rintro e w1 ⟨⟨p, hp, rfl⟩, hw1⟩
    rw [hw1]
    clear hw1 w1 hne
    obtain ⟨i, hi⟩ : ∃ i : Nat, i + 1 + p = gi.length := ⟨gi.length - 1 - p, by omega⟩
    obtain ⟨rec, hrec⟩ : ∃ x, gi[i]? = some x := ⟨gi[i], List.getElem?_eq_getElem (by omega)⟩
    obtain ⟨m, hm⟩ : ∃ x, wi[i]? = some x := ⟨wi[i]'(by have := HLE.out; omega), List.getElem?_eq_getElem _⟩
    have EG : Hid ((gi.map Value.string)[i]? = some (.string rec)) := by show _ = _; rw [List.getElem?_map, hrec]; rfl
    have EW : Hid ((wi.map Value.string)[i]? = some (.string m)) := by show _ = _; rw [List.getElem?_map, hm]; rfl
    have hrz := HGZ.out i rec hrec
    have hmz := HWZ.out i m hm
    have HMZ : Hid (m.size + o.s.size ≤ 140737488352232) := by have := HSZ.out; show _ ≤ _; omega
    have hcz : ¬ (9223372036854775807 < m.size + o.s.size) := by have := HMZ.out; omega
    have HCZ : Hid _ := hcz
    have hix : ((gi.length : Int) - 1 - (p : Int)) = (i : Int) := by omega
    have HIX : Hid _ := hix
    have HRZ2 : Hid (rec.size ≤ maxLen) := by show _ ≤ _; unfold maxLen; omega
    have HMZ2 : Hid ((m ++ o.s).size ≤ maxLen) := by show _ ≤ _; rw [ByteArray.size_append]; have := HMZ.out; unfold maxLen; omega
    clear hrec hm hmz hcz hix hrz
    go_wp2_with fail
    rw [HIX.out]
    suffices H : ∀ W, LA W B gw w.heap.size r (.slice (some ⟨gg, 0, none⟩) gi.length capg) (.slice (some ⟨gx, 0, none⟩) gi.length capx) { o with kind := 24 } gi wi → Fr [] w W → Code.wp Tryz.prog _ _ _ W from H _ HL0.out HF0.out
    clear HL0 HF0 c2 c3 HNE
    intro W X0 F1
    have hil : i < gi.length := by omega
    have hil2 : i < wi.length := by have := HLE.out; omega
    have HLX : Hid (∀ W : World, W.ownsRow B 9 1 (.slice (some ⟨gx, 0, none⟩) gi.length capx) wi.length (wi.map .string) → W.cell? ⟨gx, i, none⟩ = some (.string m)) := by
      intro W h
      rw [HLE.out] at h
      exact (World.ownsRow.cellAt h i (by omega)).trans EW.out
    have HGX : Hid (∀ W : World, W.ownsRow B 9 1 (.slice (some ⟨gg, 0, none⟩) gi.length capg) gi.length (gi.map .string) → W.cell? ⟨gg, i, none⟩ = some (.string rec)) := fun W h => (World.ownsRow.cellAt h i (by omega)).trans EG.out
    clear hi hil2
    refine wp_region_held_drew (S := fun W' => LA W' B gw w.heap.size r (.slice (some ⟨gg, 0, none⟩) gi.length capg) (.slice (some ⟨gx, 0, none⟩) gi.length capx) { o with kind := 24 } gi wi) (by kernel_rfl) X0.drew (fun hHeld => ?_)
    refine tk 0 ?v1 ?y1 ?r1
    case y1 => (intro W' hW; obtain ⟨y0, y1⟩ := cells2 hW.rb; go_simp; try with_reducible rfl)
    refine nz ?_
    refine tp 1 _ ?r2
    refine nz ?_
    refine tp 2 _ ?r3
    refine nz ?_
    refine tp 3 _ ?r4
    refine nz ?_
    refine tk 4 ?v5 ?y5 ?r5
    case y5 => (intro W' hW; have c2 := hW.c2; go_simp; try with_reducible rfl)
    refine nz ?_
    refine tp 5 _ ?r6
    refine nz ?_
    refine tp 6 _ ?r7
    refine nz ?_
    refine tk 7 ?v8 ?y8 ?r8
    case y8 => (intro W' hW; have he := HGX.out _ hW.og; go_simp; try with_reducible rfl)
    refine nz ?_
    refine tp 8 _ ?r9
    refine nz ?_
    refine tp 9 _ ?r10
    refine nz ?_
    refine tp 10 _ ?r11
    refine nz ?_
    refine tk 11 ?v12 ?y12 ?r12
    case y12 => (intro W' hW; have c3 := hW.c3; go_simp; try with_reducible rfl)
    refine nz ?_
    refine tp 12 _ ?r13
    refine nz ?_
    refine tp 13 _ ?r14
    refine nz ?_
    refine tk 14 ?v15 ?y15 ?r15
    case y15 => (intro W' hW; have he := HLX.out _ hW.ox; go_simp; try with_reducible rfl)
    refine nz ?_
    refine tp 15 _ ?r16
    refine nz ?_
    refine tk 16 ?v17 ?y17 ?r17
    case y17 => (intro W' hW; obtain ⟨z0, z1, z2, z3, z4, z5, z6, z7, z8, z9, z10, z11, z12, z13, z14, z15⟩ := cellsF hW.op; dsimp only at z4; go_simp; try with_reducible rfl)
    refine nz ?_
    refine tk 17 ?v18 ?y18 ?r18
    case y18 => (intro W' hW; have hcz : ¬ (9223372036854775807 < m.size + o.s.size) := HCZ.out; go_simp; try with_reducible rfl)
    refine nz ?_
    refine wpAnyH_ready (rs := [18]) (by kernel_rfl) (by simp) ?_
    refine AllReadyH.cons rfl (fun K hK => ?_) ?nil18
    case nil18 => exact AllReadyH.nil
    go_simp
    refine Calls.mono (H1.out _ rec (m ++ o.s) HRZ2.out HMZ2.out F1.drew) ?_
    rintro e wb ⟨rfl, fb⟩
    have Xb := X0.drew.fr fb
    have F2 := F1.drew.trans fb
    go_wp2_with fail
    refine hK.out _ _ Xb (fun hHeld => ?_)
    clear hK K
    refine tp 19 _ ?r19
    refine nz ?_
    refine wpAnyH_done (by kernel_rfl) ?_ _
    go_wp2
    go_ret
    exact ⟨rfl, F2⟩
end Go.Proofs.YtgalgjmhdbncbabGreat
