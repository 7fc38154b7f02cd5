import Derived.Test.YtgalgjmhdbncbabGreatZb41
import Derived.Test.YtgalgjmhdbncbabGreatZb49
import Derived.Test.YtgalgjmhdbncbabGreatZb38
import Derived.ProofKit
import Derived.OpenShut
import Derived.ShutString
import Derived.SizedLaws
import Derived.Deep.Slices
import Derived.Carry
namespace Go.Proofs.YtgalgjmhdbncbabGreat
open Go.RowKit
attribute [local go_sem ↓] Go.wp_at_zero Go.wp_at_succ

def pickN (c : Int) (n : Nat) : Nat := if c < 0 then (-((c + 1).tmod n)).toNat else (c % n).toNat
theorem pickN_zero (n : Nat) : pickN 0 n = 0 := by simp [pickN]
theorem pickN_lt (c : Int) (n : Nat) (h : 0 < n) : pickN c n < n := by
  unfold pickN
  split
  · rename_i hc
    obtain ⟨r, hr, he⟩ := pick_neg c n h hc
    rw [he]; simpa using hr
  · obtain ⟨r, hr, he⟩ := pick_pos c n h
    rw [he]; simpa using hr
set_option maxHeartbeats 400000 in
theorem lpick_at (c : Int) (n : Nat) (h1 : -9223372036854775808 ≤ c) (h2 : c ≤ 9223372036854775807) (hn : 0 < n) (hn2 : n ≤ 1152921504606846976) (w : World) :
    Calls Tryz.prog 10 #[.int .i64 c, .int .i64 n] w fun e w' => e = .returned (.int .i64 (pickN c n)) ∧ w' = w := by
  by_cases hc : c < 0
  · obtain ⟨r, hr, he⟩ := pick_neg c n hn hc
    have hp : pickN c n = r := by unfold pickN; rw [if_pos hc, he]; simp
    rw [hp]
    have HE : Hid _ := he
    clear he hp
    go_enter Tryz.func10, Tryz.ntmps10
    go_wp2
    go_ret
    exact ⟨by rw [← HE.out]; rfl, rfl⟩
  · obtain ⟨r, hr, he⟩ := pick_pos c n hn
    have hp : pickN c n = r := by unfold pickN; rw [if_neg hc, he]; simp
    rw [hp]
    have HE : Hid _ := he
    clear he hp
    go_enter Tryz.func10, Tryz.ntmps10
    go_wp2
    go_ret
    exact ⟨by rw [← HE.out]; rfl, rfl⟩
theorem info81 : (Tryz.prog.info? 50).map (fun i => (i.zero, i.size, i.bytes)) = some (some (.agg #[.pointer none, .pointer none]), 2, 16) := by kernel_rfl
structure StP (w w' : World) (B gw : Nat) (sv sr sg sw : Value) (rs : List Rg) (i : Nat) (v : Vt) (v' : Vt) (add : List Rg) (sr' : Value) : Prop where
  f1 : v'.gx = v.gx
  f2 : v'.gr = v.gr
  f3 : v'.gc = v.gc
  S : StoB w' v.gx v.gr v.gc v'.S v'.R
  cell : v'.S.cell = v.S.cell
  left : v'.S.left = v.S.left
  us : v'.R.user = v.R.tables + 1
  tn : v'.R.tables = v.R.tables + 1
  wr : v'.R.writes = v.R.writes
  wl : Wld w' gw sv sr' sg sw
  fr : Fr (v.gx :: v.gr :: gw :: sr.ownBlock.toList) w w'
  ad : (add = [] ∧ v'.S.tab = none ∧ ¬ ∀ j, j < 8 → CellOk v.S j) ∨ ∃ r, add = [r] ∧ r.v = i ∧ r.H = stH v.S 8 ∧ v'.S.tab = some r.gx ∧ w.heap.size ≤ r.gx ∧ w.heap.size ≤ r.gr ∧ (∀ b, r.sh.ownBlock = some b → w.heap.size ≤ b) ∧ TabB w' B r.gx r.gr r.num r.fl r.sh r.hs r.H v.gx v.gr v'.S v'.R
  ow : w'.ownsRow B 50 2 sr' (rs ++ add).length (rgL (rs ++ add))
  hb : ∀ b, sr'.ownBlock = some b → sr.ownBlock = some b ∨ w.heap.size ≤ b
set_option maxRecDepth 100000 in
set_option maxHeartbeats 8000000 in
theorem lstart_none (w : World) (gw n : Nat) (sv sr sg sw : Value) (o : OpA) (xs : List Value) (B : Nat) (hon : -9223372036854775808 ≤ o.on ∧ o.on ≤ 9223372036854775807) (hn : n ≤ 1000000000000) (hp : pickN o.on (n + 1) = n) (hw : Wld w gw sv sr sg sw) (ho : w.ownsRow B 44 2 sv n xs) :
    Calls Tryz.prog 11 #[ptr gw, .agg (opC o)] w fun e w' => e = .returned (.bool true) ∧ Fr [] w w' := by
  have F0 : Fr [] w ((w.alloc (.cells (opC o) 37)).alloc (.cells #[.pointer none, .pointer none] 44)) := ((Fr.refl _ _).alloc _).alloc _
  have hpk := fun W => lpick_at o.on (n + 1) hon.1 hon.2 (by omega) (by omega) W
  rw [hp] at hpk
  obtain ⟨c0, c1, c2, c3⟩ := (hw.fr F0 (by simp)).cells
  obtain ⟨p, cap, hsv⟩ : ∃ p cap, sv = .slice p n cap := by
    rcases ho.2 with ⟨h, h0⟩ | ⟨g, cap, cur, h, _⟩
    · exact ⟨none, 0, by rw [h, h0]⟩
    · exact ⟨_, cap, h⟩
  subst hsv
  have HPK : Hid _ := hpk
  clear hpk hw ho hp
  unfold opC at F0 c0 c1 c2 c3
  unfold ptr
  rw [show Value.agg (opC o) = .agg #[.int .i64 o.kind, .int .i64 o.on, .int .i64 o.a, .bool o.yes, .string o.s, .string o.t, .string o.u, .string o.v, .int .i64 o.cs, .int .i64 o.ca, .int .i64 o.cm, .int .i64 o.ra, .int .i64 o.ri, .string o.rn, .string o.rb, .string o.rt] from rfl]
  have HF : Hid _ := F0
  have hs1 := start_nil
  have hs2 := rstart_nil
  have H1 : Hid _ := hs1
  have H2 : Hid _ := hs2
  clear F0 hs1 hs2
  go_enter Tryz.func11, Tryz.ntmps11
  go_wp2_with fail
  refine (HPK.out _).mono ?_
  rintro e w1 ⟨rfl, hw1⟩
  rw [hw1]
  clear hw1 w1
  go_wp2_with fail
  refine (H1.out _).mono ?_
  rintro e w1 ⟨rfl, hw1⟩
  rw [hw1]
  clear hw1 w1
  go_wp2_with fail
  refine (H2.out _).mono ?_
  rintro e w1 ⟨rfl, hw1⟩
  rw [hw1]
  clear hw1 w1
  go_wp2_with fail
  refine (lnum_any 1 _).mono ?_
  rintro e w1 ⟨rfl, hw1⟩
  rw [hw1]
  go_wp2
  go_ret
  exact ⟨rfl, HF.out⟩
set_option maxRecDepth 100000 in
set_option maxHeartbeats 8000000 in
theorem lstart_at (w : World) (B gw i : Nat) (sv sr sg sw : Value) (o : OpA) (vs : List Vt) (rs : List Rg) (v : Vt) (hon : -9223372036854775808 ≤ o.on ∧ o.on ≤ 9223372036854775807) (hn : vs.length ≤ 1000000000000) (hnr : rs.length ≤ 1000000000000) (hp : pickN o.on (vs.length + 1) = i) (hv : vs[i]? = some v) (hw : Wld w gw sv sr sg sw) (ho : w.ownsRow B 44 2 sv vs.length (vtL vs)) (hor : w.ownsRow B 50 2 sr rs.length (rgL rs)) (hBw : B ≤ w.heap.size)
    (hne : ∀ b, sr.ownBlock = some b → b ≠ gw) (Sb : StoB w v.gx v.gr v.gc v.S v.R) (hng : gw ≠ v.gx ∧ gw ≠ v.gr ∧ gw ≠ v.gc) (hnb : ∀ b, sr.ownBlock = some b → b ≠ v.gx ∧ b ≠ v.gr ∧ b ≠ v.gc) (cz : ∀ j, j < 8 → (v.S.cell j).size ≤ 64) (ht : v.R.tables < 4611686018427387904) :
    Calls Tryz.prog 11 #[ptr gw, .agg (opC o)] w fun e w' => e = .returned (.bool true) ∧ ∃ v' add sr', StP w w' B gw sv sr sg sw rs i v v' add sr' := by
  obtain ⟨gv, cap, hsv, _, _⟩ := World.ownsRow.form ho (by have := getE_lt hv; omega)
  have hil := getE_lt hv
  have F0 : Fr [] w ((w.alloc (.cells (opC o) 37)).alloc (.cells #[.pointer none, .pointer none] 44)) := ((Fr.refl _ _).alloc _).alloc _
  have hpk := fun W => lpick_at o.on (vs.length + 1) hon.1 hon.2 (by omega) (by omega) W
  rw [hp] at hpk
  have o0 := ownsFr ho F0 (by simp)
  rw [hsv] at o0
  have he0 : ((w.alloc (.cells (opC o) 37)).alloc (.cells #[.pointer none, .pointer none] 44)).cell? ⟨gv, i * 2, none⟩ = some (.pointer (some ⟨v.gx, 0, none⟩)) := by
    rw [World.ownsRow.cellAt o0 (i * 2) (by omega), vtL_even, hv]; rfl
  have he1 : ((w.alloc (.cells (opC o) 37)).alloc (.cells #[.pointer none, .pointer none] 44)).cell? ⟨gv, i * 2 + 1, none⟩ = some (.pointer (some ⟨v.gr, 0, none⟩)) := by
    rw [World.ownsRow.cellAt o0 (i * 2 + 1) (by omega), vtL_odd, hv]; rfl
  obtain ⟨c0, c1, c2, c3⟩ := (hw.fr F0 (by simp)).cells
  rw [hsv] at c0
  have h1 := fun w h => start_any v.gx v.S (fun j hj => by have := cz j hj; unfold maxLen; omega) w h
  have h2 := fun w hB h => rstart_any B v.gr v.gc v.S v.R cz ht w hB h
  have HPK : Hid _ := hpk
  have H1 : Hid _ := h1
  have H2 : Hid _ := h2
  have HV : Hid _ := And.intro hw (And.intro hor (And.intro Sb (And.intro hBw hnr)))
  have HNE : Hid _ := And.intro hne (And.intro hng hnb)
  clear hpk h1 h2 hw hor Sb hBw hne hng hnb ho o0 F0 hv cz ht hp hsv
  unfold opC at c0 c1 c2 c3 he0 he1
  unfold ptr at *
  rw [show Value.agg (opC o) = .agg #[.int .i64 o.kind, .int .i64 o.on, .int .i64 o.a, .bool o.yes, .string o.s, .string o.t, .string o.u, .string o.v, .int .i64 o.cs, .int .i64 o.ca, .int .i64 o.cm, .int .i64 o.ra, .int .i64 o.ri, .string o.rn, .string o.rb, .string o.rt] from rfl]
  go_enter Tryz.func11, Tryz.ntmps11
  go_wp2_with fail
  refine (HPK.out _).mono ?_
  rintro e w1 ⟨rfl, hw1⟩
  rw [hw1]
  clear hw1 w1
  have F1 : Fr [] w ((w.alloc (.cells #[.int .i64 o.kind, .int .i64 o.on, .int .i64 o.a, .bool o.yes, .string o.s, .string o.t, .string o.u, .string o.v, .int .i64 o.cs, .int .i64 o.ca, .int .i64 o.cm, .int .i64 o.ra, .int .i64 o.ri, .string o.rn, .string o.rb, .string o.rt] 37)).alloc (.cells #[.pointer (some ⟨v.gx, 0, none⟩), .pointer (some ⟨v.gr, 0, none⟩)] 44)) := ((Fr.refl _ _).alloc _).alloc _
  have q1 : ((w.alloc (.cells #[.int .i64 o.kind, .int .i64 o.on, .int .i64 o.a, .bool o.yes, .string o.s, .string o.t, .string o.u, .string o.v, .int .i64 o.cs, .int .i64 o.ca, .int .i64 o.cm, .int .i64 o.ra, .int .i64 o.ri, .string o.rn, .string o.rb, .string o.rt] 37)).alloc (.cells #[.pointer (some ⟨v.gx, 0, none⟩), .pointer (some ⟨v.gr, 0, none⟩)] 44)).heap[w.heap.size + 1]? = some (.cells #[.pointer (some ⟨v.gx, 0, none⟩), .pointer (some ⟨v.gr, 0, none⟩)] 44 (0, 0)) := heap_of_new _ _ _ (by simp)
  have HF1 : Hid _ := And.intro F1 q1
  clear F1 q1
  go_wp2_with fail
  clear c0 c1 c2 c3 he0 he1
  refine (H1.out _ (Row.fr (L := []) HV.out.2.2.1.p HF1.out.1 (by simp))).mono ?_
  rintro e w1 ⟨hcase, f1⟩
  have lx := Row.lt HV.out.2.2.1.p
  have F2 : Fr [v.gx] w w1 := (HF1.out.1.sub (by simp)).trans f1
  obtain ⟨y0, y1⟩ := cells2 (keepRow (g := w.heap.size + 1) f1 HF1.out.2 (by simp; omega))
  have nxr := ne_rows HV.out.2.2.1.r.r HV.out.2.2.1.p (by decide)
  have nxc := ne_rows HV.out.2.2.1.r.c HV.out.2.2.1.p (by decide)
  have s1 := HV.out.2.2.1.r.fr F2 (by simp [nxr]) (by simp [nxc])
  have hB1 : B ≤ w1.heap.size := Nat.le_trans HV.out.2.2.2.1 F2.size
  have h2' := H2.out w1 hB1 s1
  have HH2 : Hid _ := h2'
  have HF2 : Hid _ := And.intro F2 (And.intro nxr nxc)
  clear f1 s1 h2' H1 H2 HF1 F2 nxr nxc
  rcases hcase with ⟨hok, g, hgl, rfl, p1, tp1⟩ | ⟨hbad, rfl, p1⟩
  · have HP : Hid _ := And.intro hok (And.intro hgl (And.intro p1 tp1))
    clear hok hgl p1 tp1
    go_wp2_with fail
    refine Calls.mono HH2.out ?_
    rintro e w2 ⟨⟨hok2, g2, sh, hs, hg2, rfl, t2, rel, hsh⟩ | ⟨hbad2, _⟩, s2, f2⟩
    · have F3 : Fr [v.gx, v.gr] w w2 := (HF2.out.1.sub (by simp)).trans (f2.sub (by simp))
      have nxr := HF2.out.2.1
      have nxc := HF2.out.2.2
      have p2 := Row.fr HP.out.2.2.1 f2 (by simp; omega)
      have ngr : g ≠ v.gr := ne_rows HP.out.2.2.2 (keepRow HF2.out.1 HV.out.2.2.1.r.r (by simp [nxr])) (by decide)
      have tp2 := Row.fr HP.out.2.2.2 f2 (by simp [ngr])
      have W2 := HV.out.1.fr F3 (by have := HNE.out.2.1; simp [this.1, this.2.1])
      have or2 := ownsFr HV.out.2.1 F3 (fun b hb => by have := HNE.out.2.2 b hb; simp [this.1, this.2.1])
      obtain ⟨d0, d1, d2, d3⟩ := W2.cells
      have y2 : w1.heap.size ≤ w2.heap.size := f2.size
      have y1' := HF2.out.1.size
      have HM : Hid _ := And.intro F3 (And.intro p2 (And.intro tp2 (And.intro W2 (And.intro or2 (And.intro s2 (And.intro t2 (And.intro rel (And.intro hsh hg2))))))))
      have hgl := HP.out.2.1
      simp at hgl
      have hz := info_parts' info81
      obtain ⟨i0, hi, hz0, hz1, hz2⟩ := hz
      have hl1 := HV.out.2.2.2.2
      have hB2 : B ≤ w2.heap.size := by omega
      clear f2 F3 p2 tp2 W2 or2 s2 t2 rel hsh HH2 y0 y1 nxr nxc hok2
      go_wp2_with fail
      refine (lnum_any 0 _).mono ?_
      rintro e wq ⟨rfl, hwq⟩
      rw [hwq]
      clear hwq wq
      go_wp2_with (refine wpList_append_lies _ rfl _ _ 28 rfl B 50 i0 _ 2 16 Tryz.underlying28 hi hz0 hz1 hz2 rfl (by decide) sr rs.length (rgL rs) rfl (World.ownsRow.alloc HM.out.2.2.2.2.1 _) ⟨w2.heap.size, 0, none⟩ 1 1 [.pointer (some ⟨g, 0, none⟩), .pointer (some ⟨g2, 0, none⟩)] rfl rfl (World.news_of_block (heap_of_new _ _ _ rfl)) (by simp [Value.oneCell']) (by omega) (by unfold maxLen; omega) (by omega) (by simp; omega) (w2.heap.size + 1) (by simp) ?_; intro gn capn wn hown hgrow hat hltn; have HG : Hid _ := And.intro hown (And.intro hgrow (And.intro hat hltn)); clear hown hgrow hat hltn; have F8 : Fr sr.ownBlock.toList w2 wn := ((Fr.refl _ w2).alloc _).trans (Fr.of_grown HG.out.2.1 (by simp)); have W3 := Wld.fr HM.out.2.2.2.1 F8 (by simp; intro e; exact HNE.out.1 _ e rfl); have fz1 := W3.frozen 1; obtain ⟨x0, x1, x2, x3⟩ := W3.cells)
      go_ret
      obtain ⟨hown, hgrow, hat, hltn⟩ := HG.out
      obtain ⟨F3, p2, tp2, W2, or2, s2, t2, rel, hsh, hg2⟩ := HM.out
      obtain ⟨hng, hnb⟩ := HNE.out.2
      have F10 : Fr [gw] wn (wn.setCell ⟨gw, 1, none⟩ (.slice (some ⟨gn, 0, none⟩) (rs.length + 1) capn)) := Fr.setCell (Fr.refl _ _) (.inr (by simp)) _
      have srl : ∀ b, sr.ownBlock = some b → b < w.heap.size := fun b hb => (World.ownsRow.lt HV.out.2.1 b hb).2
      have lgw := HV.out.1.lt
      have ns : ∀ b, w.heap.size ≤ b → b ∉ sr.ownBlock.toList := fun b hb hm => by
        have := srl b (by simpa using hm)
        omega
      have nv : ∀ b, (b = v.gx ∨ b = v.gr ∨ b = v.gc) → b ∉ sr.ownBlock.toList := fun b hb hm => by
        have := hnb b (by simpa using hm)
        omega
      have p4 := Row.fr (Row.fr p2 F8 (nv _ (.inl rfl))) F10 (by simp; omega)
      have s4 := (s2.fr F8 (nv _ (.inr (.inl rfl))) (nv _ (.inr (.inr rfl)))).fr F10 (by simp; omega) (by simp; omega)
      have tp4 := Row.fr (Row.fr tp2 F8 (ns g (by omega))) F10 (by simp; omega)
      have y1'' := HF2.out.1.size
      have t4 := (t2.fr F8 (ns g2 (by omega)) (fun b hb => ns b (by have := hsh b hb; omega))).fr F10 (by simp; omega) (fun b hb => by have := hsh b hb; simp; omega)
      have hgn : gn ≠ gw := by
        rcases hat with h | h
        · exact HNE.out.1 gn h
        · omega
      have tabB : TabB (wn.setCell ⟨gw, 1, none⟩ (.slice (some ⟨gn, 0, none⟩) (rs.length + 1) capn)) B g g2 (v.R.tables + 1) false sh hs (stH v.S 8) v.gx v.gr { v.S with tab := some g } (stRe v.R) := by
        refine ⟨tp4, t4, rel, ?_, Nat.le_refl _⟩
        show overB false (v.R.tables + 1) (v.R.tables + 1) = true ↔ some g ≠ some g
        unfold overB
        simp
      refine ⟨rfl, ⟨v.gx, v.gr, v.gc, { v.S with tab := some g }, stRe v.R⟩, [⟨g, g2, i, v.R.tables + 1, false, sh, hs, stH v.S 8⟩], .slice (some ⟨gn, 0, none⟩) (rs.length + 1) capn, rfl, rfl, rfl, ⟨p4, ⟨s4.r, s4.c, s4.left⟩, HV.out.2.2.1.l⟩, rfl, rfl, rfl, rfl, rfl, W3.set1 _, ?_, .inr ⟨_, rfl, rfl, rfl, rfl, by show w.heap.size ≤ g; omega, by show w.heap.size ≤ g2; omega, fun b hb => by have := hsh b hb; omega, tabB⟩, ?_, ?_⟩
      · refine ((F3.sub ?_).trans (F8.sub ?_)).trans (F10.sub ?_)
        · intro k hk
          simp only [List.mem_cons, List.not_mem_nil, or_false] at hk
          rcases hk with rfl | rfl <;> simp
        · intro k hk
          simp [hk]
        · intro k hk
          simp only [List.mem_singleton] at hk
          simp [hk]
      · rw [List.length_append, rgL_snoc]
        exact ownsFr hown F10 (fun b hb => by simp only [Value.ownBlock, Option.some.injEq] at hb; subst hb; simp [hgn])
      · intro b hb
        simp only [Value.ownBlock, Option.some.injEq] at hb
        subst hb
        rcases hat with h | h
        · exact .inl h
        · exact .inr (by omega)
    · exact absurd HP.out.1 hbad2
  · have HP : Hid _ := And.intro hbad p1
    clear hbad p1
    go_wp2_with fail
    refine Calls.mono HH2.out ?_
    rintro e w2 ⟨⟨hok2, _⟩ | ⟨_, rfl⟩, s2, f2⟩
    · exact absurd hok2 HP.out.1
    · have F3 : Fr [v.gx, v.gr] w w2 := (HF2.out.1.sub (by simp)).trans (f2.sub (by simp))
      have nxr := HF2.out.2.1
      have p2 := Row.fr HP.out.2 f2 (by simp; omega)
      have W2 := HV.out.1.fr F3 (by have := HNE.out.2.1; simp [this.1, this.2.1])
      have or2 := ownsFr HV.out.2.1 F3 (fun b hb => by have := HNE.out.2.2 b hb; simp [this.1, this.2.1])
      have HM : Hid _ := And.intro F3 (And.intro p2 (And.intro W2 (And.intro or2 s2)))
      clear f2 F3 p2 W2 or2 s2 HH2 y0 y1 nxr
      go_wp2_with fail
      refine (lnum_any 9 _).mono ?_
      rintro e wq ⟨rfl, hwq⟩
      rw [hwq]
      clear hwq wq
      go_wp2
      go_ret
      obtain ⟨F3, p2, W2, or2, s2⟩ := HM.out
      refine ⟨rfl, ⟨v.gx, v.gr, v.gc, { v.S with tab := none }, stRe v.R⟩, [], sr, rfl, rfl, rfl, ⟨p2, ⟨s2.r, s2.c, s2.left⟩, HV.out.2.2.1.l⟩, rfl, rfl, rfl, rfl, rfl, W2, F3.sub (by simp), .inl ⟨rfl, rfl, HP.out.1⟩, by rw [List.append_nil]; exact or2, fun b hb => .inl hb⟩
end Go.Proofs.YtgalgjmhdbncbabGreat
namespace Go.Proofs.YtgalgjmhdbncbabGreat
open Go.ChangeShapes Go.WideShapes Go.ChangeAt Go.RowKit

structure OpWf (o : OpA) : Prop where
  on : -9223372036854775808 ≤ o.on ∧ o.on ≤ 9223372036854775807
  a : -9223372036854775808 ≤ o.a ∧ o.a ≤ 9223372036854775807
  cs : -9223372036854775808 ≤ o.cs ∧ o.cs ≤ 9223372036854775807
  ca : -9223372036854775808 ≤ o.ca ∧ o.ca ≤ 9223372036854775807
  cm : -9223372036854775808 ≤ o.cm ∧ o.cm ≤ 9223372036854775807
  s : o.s.size ≤ 140737488351232
  t : o.t.size ≤ 140737488351232
  u : o.u.size ≤ 140737488351232
  v : o.v.size ≤ 140737488351232
  rn : o.rn.size ≤ 140737488351232
  rb : o.rb.size ≤ 140737488351232
  rt : o.rt.size ≤ 140737488351232
def opD (H : Type) (o : OpA) : DataW H := .agg [.lit (.int .i64 o.kind), .lit (.int .i64 o.on), .lit (.int .i64 o.a), .lit (.bool o.yes), .lit (.string o.s.data.toList), .lit (.string o.t.data.toList), .lit (.string o.u.data.toList), .lit (.string o.v.data.toList),
  .agg [.lit (.int .i64 o.cs), .lit (.int .i64 o.ca), .lit (.int .i64 o.cm)], .agg [.lit (.int .i64 o.ra), .lit (.int .i64 o.ri), .lit (.string o.rn.data.toList), .lit (.string o.rb.data.toList), .lit (.string o.rt.data.toList)]]
theorem cells54 : Tryz.prog.cellsOf 37 = 16 := by kernel_rfl
theorem bytes54 : Tryz.prog.bytesOf 37 = 184 := by kernel_rfl
theorem sixteen {cs : List Value} (h : cs.length = 16) : ∃ c0 c1 c2 c3 c4 c5 c6 c7 c8 c9 c10 c11 c12 c13 c14 c15, cs = [c0, c1, c2, c3, c4, c5, c6, c7, c8, c9, c10, c11, c12, c13, c14, c15] := by
  match cs, h with
  | [c0, c1, c2, c3, c4, c5, c6, c7, c8, c9, c10, c11, c12, c13, c14, c15], _ => exact ⟨c0, c1, c2, c3, c4, c5, c6, c7, c8, c9, c10, c11, c12, c13, c14, c15, rfl⟩
set_option maxRecDepth 100000 in
set_option maxHeartbeats 1000000 in
theorem open_op {H : Type} {enc : TypeId × Value → H} {W : World} {base : Nat} {sp : Nat → Bool} {held : Bool} {fuel : Nat} {cs : List Value} {x : DataW H × List MemPlace} (hc : cs.length = 16)
    (h : DataW.trod enc Tryz.prog W base sp held fuel 37 cs = some x) :
    ∃ o : OpA, cs = (opC o).toList ∧ x.1 = opD H o ∧ (Lit.int .i64 o.on).wf = true ∧ (Lit.int .i64 o.a).wf = true ∧ (Lit.int .i64 o.cs).wf = true ∧ (Lit.int .i64 o.ca).wf = true ∧ (Lit.int .i64 o.cm).wf = true := by
  obtain ⟨c0, c1, c2, c3, c4, c5, c6, c7, c8, c9, c10, c11, c12, c13, c14, c15, rfl⟩ := sixteen hc
  obtain ⟨xs, m, rfl, hx, _, hl, hall⟩ := DataW.trod_struct Tryz.underlying37 h
  have h0 := hall 0 _ rfl
  have h1 := hall 1 _ rfl
  have h2 := hall 2 _ rfl
  have h3 := hall 3 _ rfl
  have h4 := hall 4 _ rfl
  have h5 := hall 5 _ rfl
  have h6 := hall 6 _ rfl
  have h7 := hall 7 _ rfl
  have h8 := hall 8 _ rfl
  have h9 := hall 9 _ rfl
  match xs, hl with
  | [x0, x1, x2, x3, x4, x5, x6, x7, x8, x9], _ =>
    have h0 : DataW.trod enc Tryz.prog W base sp held m 3 [c0] = some x0 := h0
    have h1 : DataW.trod enc Tryz.prog W base sp held m 3 [c1] = some x1 := h1
    have h2 : DataW.trod enc Tryz.prog W base sp held m 3 [c2] = some x2 := h2
    have h3 : DataW.trod enc Tryz.prog W base sp held m 4 [c3] = some x3 := h3
    have h4 : DataW.trod enc Tryz.prog W base sp held m 9 [c4] = some x4 := h4
    have h5 : DataW.trod enc Tryz.prog W base sp held m 9 [c5] = some x5 := h5
    have h6 : DataW.trod enc Tryz.prog W base sp held m 9 [c6] = some x6 := h6
    have h7 : DataW.trod enc Tryz.prog W base sp held m 9 [c7] = some x7 := h7
    have h8 : DataW.trod enc Tryz.prog W base sp held m 33 [c8, c9, c10] = some x8 := h8
    have h9 : DataW.trod enc Tryz.prog W base sp held m 35 [c11, c12, c13, c14, c15] = some x9 := h9
    obtain ⟨k, e0, hx0, hw0⟩ := DataW.trod_int Tryz.underlying3 h0
    obtain ⟨on, e1, hx1, hw1⟩ := DataW.trod_int Tryz.underlying3 h1
    obtain ⟨a, e2, hx2, hw2⟩ := DataW.trod_int Tryz.underlying3 h2
    obtain ⟨y, e3, hx3⟩ := DataW.trod_bool Tryz.underlying4 h3
    obtain ⟨s, e4, hx4, hw4⟩ := DataW.trod_string Tryz.underlying9 h4
    obtain ⟨t, e5, hx5, hw5⟩ := DataW.trod_string Tryz.underlying9 h5
    obtain ⟨u, e6, hx6, hw6⟩ := DataW.trod_string Tryz.underlying9 h6
    obtain ⟨v, e7, hx7, hw7⟩ := DataW.trod_string Tryz.underlying9 h7
    obtain ⟨ys, m2, rfl, hy, _, hl2, hall2⟩ := DataW.trod_struct Tryz.underlying33 h8
    have g0 := hall2 0 _ rfl
    have g1 := hall2 1 _ rfl
    have g2 := hall2 2 _ rfl
    obtain ⟨zs, m3, e33, hz, _, hl3, hall3⟩ := DataW.trod_struct Tryz.underlying35 h9
    have f0 := hall3 0 _ rfl
    have f1 := hall3 1 _ rfl
    have f2 := hall3 2 _ rfl
    have f3 := hall3 3 _ rfl
    have f4 := hall3 4 _ rfl
    match ys, hl2, zs, hl3 with
    | [y0, y1, y2], _, [z0, z1, z2, z3, z4], _ =>
      have g0 : DataW.trod enc Tryz.prog W base sp held m2 3 [c8] = some y0 := g0
      have g1 : DataW.trod enc Tryz.prog W base sp held m2 3 [c9] = some y1 := g1
      have g2 : DataW.trod enc Tryz.prog W base sp held m2 3 [c10] = some y2 := g2
      have f0 : DataW.trod enc Tryz.prog W base sp held m3 3 [c11] = some z0 := f0
      have f1 : DataW.trod enc Tryz.prog W base sp held m3 3 [c12] = some z1 := f1
      have f2 : DataW.trod enc Tryz.prog W base sp held m3 9 [c13] = some z2 := f2
      have f3 : DataW.trod enc Tryz.prog W base sp held m3 9 [c14] = some z3 := f3
      have f4 : DataW.trod enc Tryz.prog W base sp held m3 9 [c15] = some z4 := f4
      obtain ⟨i8, e8, hx8, hw8⟩ := DataW.trod_int Tryz.underlying3 g0
      obtain ⟨i9, e9, hx9, hw9⟩ := DataW.trod_int Tryz.underlying3 g1
      obtain ⟨i10, e10, hx10, hw10⟩ := DataW.trod_int Tryz.underlying3 g2
      obtain ⟨i11, e11, hx11, hw11⟩ := DataW.trod_int Tryz.underlying3 f0
      obtain ⟨i12, e12, hx12, hw12⟩ := DataW.trod_int Tryz.underlying3 f1
      obtain ⟨s13, e13, hx13, hw13⟩ := DataW.trod_string Tryz.underlying9 f2
      obtain ⟨s14, e14, hx14, hw14⟩ := DataW.trod_string Tryz.underlying9 f3
      obtain ⟨s15, e15, hx15, hw15⟩ := DataW.trod_string Tryz.underlying9 f4
      simp only [List.cons.injEq, and_true] at e0 e1 e2 e3 e4 e5 e6 e7 e8 e9 e10 e11 e12 e13 e14 e15
      subst e0 e1 e2 e3 e4 e5 e6 e7 e8 e9 e10 e11 e12 e13 e14 e15 hx0 hx1 hx2 hx3 hx4 hx5 hx6 hx7 hx8 hx9 hx10 hx11 hx12 hx13 hx14 hx15
      subst hy hz
      refine ⟨⟨k, on, a, y, s, t, u, v, i8, i9, i10, i11, i12, s13, s14, s15⟩, rfl, ?_, hw1, hw2, hw8, hw9, hw10⟩
      rw [hx]
      rfl
theorem weights_elem {H : Type} {P : Program} {e : TypeId} : ∀ {elems : List (DataW H)} {d : DataW H}, d ∈ elems → ∀ n ∈ d.weights P e, n ∈ DataW.weightsAll P e elems
  | x :: r, d, hd, n, hn => by
    rcases List.mem_cons.1 hd with rfl | h
    · simp [DataW.weightsAll, hn]
    · simp [DataW.weightsAll, weights_elem h n hn]
set_option maxRecDepth 100000 in
theorem op_weights (H : Type) (o : OpA) : ∀ n ∈ [o.s.size, o.t.size, o.u.size, o.v.size, o.rn.size, o.rb.size, o.rt.size], n ∈ (opD H o).weights Tryz.prog 37 := by
  intro n hn
  have e : (opD H o).weights Tryz.prog 37 = [o.s.size, o.t.size, o.u.size, o.v.size, o.rn.size, o.rb.size, o.rt.size] := by
    unfold opD
    simp [DataW.weights, DataW.weightsEach, Tryz.underlying37, Tryz.underlying33, Tryz.underlying35]
    try exact ⟨rfl, rfl, rfl, rfl, rfl, rfl, rfl⟩
  rw [e]; exact hn
set_option maxRecDepth 100000 in
set_option maxHeartbeats 1000000 in
theorem open_script {H : Type} {enc : TypeId × Value → H} {W : World} {v : Value} {d : DataW H} {ps : List MemPlace} {ts : List TypeId} {ds : List (DataW H)} (hs : (DataW.weightsEach Tryz.prog ts ds).all (· ≤ reachBytes) = true) (ht : ts[0]? = some 22) (hd0 : ds[0]? = some d)
    (hval : Value.okWide Tryz.prog W .any 0 22 v) (h : DataW.Trod enc Tryz.prog W 0 (fun _ => true) true 22 v d ps) :
    v = .slice none 0 0 ∨ ∃ (a : Addr) (len cap : Nat) (os : Nat → OpA), v = .slice (some a) len cap ∧ (0 < len → a.block < W.heap.size) ∧ len ≤ 1000000000000 ∧ (∀ i, i < len → OpAt W (a.add (i * 16)) (os i)) ∧ (∀ i, i < len → OpWf (os i)) := by
  obtain ⟨fuel, hf⟩ := h
  have hv : v.cells.toList = [v] := by
    obtain ⟨b, l, c, rfl⟩ := okWide_slice Tryz.underlying22 hval
    rfl
  rw [hv] at hf
  rcases Go.Deep.open_slice Tryz.underlying22 hf with ⟨h1, h2⟩ | ⟨a, len, cap, m, n, D, Pl, h1, _, hlc, _, hm, h2, hel⟩
  · simp only [List.cons.injEq, and_true] at h1
    exact .inl h1
  · simp only [List.cons.injEq, and_true] at h1
    subst h1
    right
    simp only [if_true] at hm
    subst hm
    simp only [Prod.mk.injEq] at h2
    obtain ⟨rfl, rfl⟩ := h2
    rw [cells54] at hel
    have hz := sized_slice hs ht hd0 Tryz.underlying22
    rw [bytes54] at hz
    simp only [List.length_map, List.length_range] at hz
    have hr : reachBytes ≤ 140737488351232 := by decide
    have hz2 := Nat.le_trans hz hr
    clear hz
    have hops : ∀ i, i < len → ∃ o : OpA, OpAt W (a.add (i * 16)) o ∧ D i = opD H o ∧ (Lit.int .i64 o.on).wf = true ∧ (Lit.int .i64 o.a).wf = true ∧ (Lit.int .i64 o.cs).wf = true ∧ (Lit.int .i64 o.ca).wf = true ∧ (Lit.int .i64 o.cm).wf = true := by
      intro i hi
      obtain ⟨cs', hc1, hc2⟩ := hel i (by omega)
      obtain ⟨_, hl, hcell⟩ := World.cells?_some hc1
      obtain ⟨o, e, e2, q⟩ := open_op hl hc2
      refine ⟨o, ?_, e2, q⟩
      intro j v hj
      rw [← e] at hj
      have hjl : j < 16 := by
        rcases Nat.lt_or_ge j 16 with h | h
        · exact h
        · rw [List.getElem?_eq_none (by omega)] at hj; cases hj
      rw [hcell j hjl]; exact hj
    have : Inhabited OpA := ⟨⟨0, 0, 0, false, ⟨#[]⟩, ⟨#[]⟩, ⟨#[]⟩, ⟨#[]⟩, 0, 0, 0, 0, 0, ⟨#[]⟩, ⟨#[]⟩, ⟨#[]⟩⟩⟩
    obtain ⟨os, hos⟩ := Go.Deep.choose_lt hops
    refine ⟨a, len, _, os, rfl, ?_, by omega, fun i hi => (hos i hi).1, fun i hi => ?_⟩
    · intro h0
      have h1 := (hos 0 h0).1 0 _ rfl
      have h2 := World.block_lt_of_cell? _ _ h1
      rwa [add_block, add_block] at h2
    · obtain ⟨_, e, w1, w2, w3, w4, w5⟩ := hos i hi
      have hmem : ∀ n ∈ (opD H (os i)).weights Tryz.prog 37, n ≤ 140737488351232 := by
        intro n hn
        have hD : opD H (os i) ∈ (List.range len).map D := by
          rw [← e]; exact List.mem_map.2 ⟨i, by simpa using hi, rfl⟩
        have hw := weights_elem hD n hn
        have hall := List.all_eq_true.1 hs n (DataW.weights_mem_each ht hd0 n (by
          simp only [DataW.weights, Tryz.underlying22]
          exact List.mem_cons_of_mem _ (List.mem_append_left _ hw)))
        have : n ≤ reachBytes := by simpa using hall
        omega
      have hs7 := fun n hn => hmem n (op_weights H (os i) n hn)
      exact ⟨bounds_i64 w1, bounds_i64 w2, bounds_i64 w3, bounds_i64 w4, bounds_i64 w5, hs7 _ (by simp), hs7 _ (by simp), hs7 _ (by simp), hs7 _ (by simp), hs7 _ (by simp), hs7 _ (by simp), hs7 _ (by simp)⟩
end Go.Proofs.YtgalgjmhdbncbabGreat
