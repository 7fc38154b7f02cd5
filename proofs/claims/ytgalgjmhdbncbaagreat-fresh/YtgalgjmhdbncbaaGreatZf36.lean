import Derived.Test.YtgalgjmhdbncbaaGreatZf34
import Derived.Test.YtgalgjmhdbncbaaGreatZf35
import Derived.Deep.AppendLies
import Derived.Deep.RegionHeld
namespace Go.Proofs.YtgalgjmhdbncbaaGreat
open Go.RowKit
attribute [local go_sem ↓] Go.wp_at_zero Go.wp_at_succ

theorem ne_rowsF {w : World} {a b : Nat} {c c' : Array Value} {t t' : TypeId} {z z' : Nat × Nat} (h : w.heap[a]? = some (.cells c t z)) (h' : w.heap[b]? = some (.cells c' t' z')) (ht : t ≠ t') : a ≠ b := by
  rintro rfl
  rw [h] at h'
  simp only [Option.some.injEq, Obj.cells.injEq] at h'
  exact ht h'.2.1
def kyF (k : Ky) : Nat → Value
  | 0 => .int .i64 k.there
  | 1 => .int .i64 k.ret
  | 2 => .int .i64 k.seals
  | _ => .int .i64 k.given
def rgV (sx t : Nat) (K : Nat → Ky) (sg : Value) (ov : Bool) (j : Nat) : Value := if j = 0 then ptr sx else if j = 1 then ptr t else if j < 18 then kyF (K ((j - 2) / 4)) ((j - 2) % 4) else if j = 18 then sg else .bool ov
def RgR (w : World) (g sx t : Nat) (K : Nat → Ky) (sg : Value) (ov : Bool) : Prop := Row w g 20 39 (rgV sx t K sg ov)
theorem RgR.at0 {w : World} {g sx t : Nat} {K : Nat → Ky} {sg : Value} {ov : Bool} (h : RgR w g sx t K sg ov) : w.cell? ⟨g, 0, none⟩ = some (.pointer (some ⟨sx, 0, none⟩)) := by rw [Row.cell h 0 (by omega)]; rfl
theorem RgR.at1 {w : World} {g sx t : Nat} {K : Nat → Ky} {sg : Value} {ov : Bool} (h : RgR w g sx t K sg ov) : w.cell? ⟨g, 1, none⟩ = some (.pointer (some ⟨t, 0, none⟩)) := by rw [Row.cell h 1 (by omega)]; rfl
theorem RgR.at18 {w : World} {g sx t : Nat} {K : Nat → Ky} {sg : Value} {ov : Bool} (h : RgR w g sx t K sg ov) : w.cell? ⟨g, 18, none⟩ = some sg := by rw [Row.cell h 18 (by omega)]; rfl
theorem RgR.at19 {w : World} {g sx t : Nat} {K : Nat → Ky} {sg : Value} {ov : Bool} (h : RgR w g sx t K sg ov) : w.cell? ⟨g, 19, none⟩ = some (.bool ov) := by rw [Row.cell h 19 (by omega)]; rfl
theorem rgV_key (sx t : Nat) (K : Nat → Ky) (sg : Value) (ov : Bool) (id j : Nat) (hid : id < 4) (hj : j < 4) : rgV sx t K sg ov (2 + id * 4 + j) = kyF (K id) j := by
  unfold rgV
  rw [if_neg (by omega), if_neg (by omega), if_pos (by omega), show (2 + id * 4 + j - 2) / 4 = id by omega, show (2 + id * 4 + j - 2) % 4 = j by omega]
theorem RgR.key {w : World} {g sx t : Nat} {K : Nat → Ky} {sg : Value} {ov : Bool} (h : RgR w g sx t K sg ov) (id : Nat) (hid : id < 4) : w.cell? ⟨g, 2 + id * 4, none⟩ = some (.int .i64 (K id).there) ∧ w.cell? ⟨g, 2 + id * 4 + 1, none⟩ = some (.int .i64 (K id).ret) ∧ w.cell? ⟨g, 2 + id * 4 + 2, none⟩ = some (.int .i64 (K id).seals) ∧ w.cell? ⟨g, 2 + id * 4 + 3, none⟩ = some (.int .i64 (K id).given) := by
  refine ⟨?_, ?_, ?_, ?_⟩
  · rw [Row.cell h (2 + id * 4) (by omega), show 2 + id * 4 = 2 + id * 4 + 0 from rfl, rgV_key _ _ _ _ _ _ _ hid (by omega)]; rfl
  · rw [Row.cell h (2 + id * 4 + 1) (by omega), rgV_key _ _ _ _ _ _ _ hid (by omega)]; rfl
  · rw [Row.cell h (2 + id * 4 + 2) (by omega), rgV_key _ _ _ _ _ _ _ hid (by omega)]; rfl
  · rw [Row.cell h (2 + id * 4 + 3) (by omega), rgV_key _ _ _ _ _ _ _ hid (by omega)]; rfl
theorem RgR.setKy {w : World} {g sx t : Nat} {K : Nat → Ky} {sg : Value} {ov : Bool} (h : RgR w g sx t K sg ov) (id j : Nat) (hid : id < 4) (hj : j < 4) (k : Ky) (hk : ∀ i, i < 4 → i ≠ j → kyF k i = kyF (K id) i) : RgR (w.setCell ⟨g, 2 + id * 4 + j, none⟩ (kyF k j)) g sx t (setK K id k) sg ov := by
  refine Row.congr (Row.set h _ _) (fun i hi => ?_)
  by_cases e : i = 2 + id * 4 + j
  · subst e
    rw [if_pos rfl, rgV_key _ _ _ _ _ _ _ hid hj, setK_at]
  · rw [if_neg e]
    unfold rgV
    by_cases h0 : i = 0
    · rw [if_pos h0, if_pos h0]
    · rw [if_neg h0, if_neg h0]
      by_cases h1 : i = 1
      · rw [if_pos h1, if_pos h1]
      · rw [if_neg h1, if_neg h1]
        by_cases h2 : i < 18
        · rw [if_pos h2, if_pos h2]
          by_cases h3 : (i - 2) / 4 = id
          · rw [h3, setK_at]
            exact (hk _ (by omega) (by omega)).symm
          · rw [setK_ne _ _ _ _ h3]
        · rw [if_neg h2, if_neg h2]
theorem RgR.set0 {w : World} {g sx t : Nat} {K : Nat → Ky} {sg : Value} {ov : Bool} (h : RgR w g sx t K sg ov) (x : Nat) : RgR (w.setCell ⟨g, 0, none⟩ (.pointer (some ⟨x, 0, none⟩))) g x t K sg ov := by
  refine Row.congr (Row.set h _ _) (fun i hi => ?_)
  unfold rgV
  by_cases e : i = 0
  · rw [if_pos e, if_pos e]; rfl
  · rw [if_neg e, if_neg e, if_neg e]
theorem RgR.set1 {w : World} {g sx t : Nat} {K : Nat → Ky} {sg : Value} {ov : Bool} (h : RgR w g sx t K sg ov) (x : Nat) : RgR (w.setCell ⟨g, 1, none⟩ (.pointer (some ⟨x, 0, none⟩))) g sx x K sg ov := by
  refine Row.congr (Row.set h _ _) (fun i hi => ?_)
  unfold rgV
  by_cases e : i = 1
  · subst e; rfl
  · rw [if_neg e, if_neg e, if_neg e]
theorem RgR.set18 {w : World} {g sx t : Nat} {K : Nat → Ky} {sg : Value} {ov : Bool} (h : RgR w g sx t K sg ov) (v : Value) : RgR (w.setCell ⟨g, 18, none⟩ v) g sx t K v ov := by
  refine Row.congr (Row.set h _ _) (fun i hi => ?_)
  unfold rgV
  by_cases e : i = 18
  · subst e; rfl
  · rw [if_neg e, if_neg e, if_neg e]
theorem RgR.set19 {w : World} {g sx t : Nat} {K : Nat → Ky} {sg : Value} {ov : Bool} (h : RgR w g sx t K sg ov) (b : Bool) : RgR (w.setCell ⟨g, 19, none⟩ (.bool b)) g sx t K sg b := by
  refine Row.congr (Row.set h _ _) (fun i hi => ?_)
  unfold rgV
  by_cases e : i = 19
  · subst e; rfl
  · rw [if_neg e]
    by_cases h0 : i = 0
    · rw [if_pos h0, if_pos h0]
    · rw [if_neg h0, if_neg h0]
      by_cases h1 : i = 1
      · rw [if_pos h1, if_pos h1]
      · rw [if_neg h1, if_neg h1]
        by_cases h2 : i < 18
        · rw [if_pos h2, if_pos h2]
        · rw [if_neg h2, if_neg h2, if_pos (by omega), if_pos (by omega)]
theorem RgR.fr {w w' : World} {g sx t : Nat} {K : Nat → Ky} {sg : Value} {ov : Bool} {L : List Nat} (h : RgR w g sx t K sg ov) (hf : Fr L w w') (hg : g ∉ L) : RgR w' g sx t K sg ov := Row.fr h hf hg
def gvL (G : List Gv) : List Value := G.flatMap fun g => [.int .i64 g.id, .string g.txt, .string g.plain]
theorem gvL_len (G : List Gv) : (gvL G).length = G.length * 3 := by
  induction G with
  | nil => rfl
  | cons a l ih => rw [show gvL (a :: l) = [.int .i64 a.id, .string a.txt, .string a.plain] ++ gvL l from rfl, List.length_append, ih, List.length_cons]; simp; omega
theorem gvL_snoc (G : List Gv) (g : Gv) : gvL (G ++ [g]) = gvL G ++ [.int .i64 g.id, .string g.txt, .string g.plain] := by simp [gvL]
theorem gvL_at (G : List Gv) : ∀ (k : Nat) (g : Gv), G[k]? = some g → (gvL G)[k * 3]? = some (.int .i64 g.id) ∧ (gvL G)[k * 3 + 1]? = some (.string g.txt) ∧ (gvL G)[k * 3 + 2]? = some (.string g.plain) := by
  induction G with
  | nil => intro k g hk; simp at hk
  | cons a l ih =>
    intro k g hk
    cases k with
    | zero =>
      simp only [List.getElem?_cons_zero, Option.some.injEq] at hk
      subst hk
      exact ⟨rfl, rfl, rfl⟩
    | succ k =>
      rw [List.getElem?_cons_succ] at hk
      have := ih k g hk
      rw [show (k + 1) * 3 = k * 3 + 1 + 1 + 1 by omega]
      simpa [gvL] using this
structure Rn0 (w : World) (B g sx t : Nat) (S : Sto) (K : Nat → Ky) (G : List Gv) (ov : Bool) (sg : Value) (top : Nat → Nat) : Prop where
  r : RgR w g sx t K sg ov
  s : StoP w sx S
  o : w.ownsRow B 72 3 sg G.length (gvL G)
  cs : Cs S
  dk : Dk (fun j => ofC (S.cell j)) K G top
  le : S.left ≤ 9223372036854775807
  bg : B ≤ g
  bs : B ≤ sx
structure Rng (w : World) (B g sx t : Nat) (S : Sto) (H : Nat → Hd) (K : Nat → Ky) (G : List Gv) (ov : Bool) (sg : Value) (top : Nat → Nat) : Prop where
  r : RgR w g sx t K sg ov
  s : StoP w sx S
  tp : TabP w t sx H
  o : w.ownsRow B 72 3 sg G.length (gvL G)
  i : RI S t H K G ov top
  bg : B ≤ g
  bs : B ≤ sx
  bt : B ≤ t
theorem Rng.base {w : World} {B g sx t : Nat} {S : Sto} {H : Nat → Hd} {K : Nat → Ky} {G : List Gv} {ov : Bool} {sg : Value} {top : Nat → Nat} (h : Rng w B g sx t S H K G ov sg top) : Rn0 w B g sx t S K G ov sg top := ⟨h.r, h.s, h.o, h.i.cs, h.i.dk, h.i.le, h.bg, h.bs⟩
theorem Rng.fr0 {w w' : World} {B g sx t : Nat} {S : Sto} {H : Nat → Hd} {K : Nat → Ky} {G : List Gv} {ov : Bool} {sg : Value} {top : Nat → Nat} (h : Rng w B g sx t S H K G ov sg top) (hf : Fr [] w w') : Rng w' B g sx t S H K G ov sg top :=
  ⟨h.r.fr hf (by simp), Row.fr h.s hf (by simp), Row.fr h.tp hf (by simp), ownsFr h.o hf (by simp), h.i, h.bg, h.bs, h.bt⟩
theorem Rn0.fr0 {w w' : World} {B g sx t : Nat} {S : Sto} {K : Nat → Ky} {G : List Gv} {ov : Bool} {sg : Value} {top : Nat → Nat} (h : Rn0 w B g sx t S K G ov sg top) (hf : Fr [] w w') : Rn0 w' B g sx t S K G ov sg top :=
  ⟨h.r.fr hf (by simp), Row.fr h.s hf (by simp), ownsFr h.o hf (by simp), h.cs, h.dk, h.le, h.bg, h.bs⟩
theorem Rng.tabIn {w : World} {B g sx t : Nat} {S : Sto} {H : Nat → Hd} {K : Nat → Ky} {G : List Gv} {ov : Bool} {sg : Value} {top : Nat → Nat} (h : Rng w B g sx t S H K G ov sg top) : TabIn w S := by
  intro x hx
  cases ov with
  | true => rw [h.i.ov rfl] at hx; cases hx
  | false =>
    rw [(h.i.lv rfl).tab] at hx
    simp only [Option.some.injEq] at hx
    subst hx
    exact ⟨_, h.tp⟩
structure RgN (g sx t : Nat) (sg : Value) : Prop where
  gs : g ≠ sx
  gt : g ≠ t
  st : sx ≠ t
  og : ∀ b, sg.ownBlock = some b → b ≠ g ∧ b ≠ sx ∧ b ≠ t
theorem Rng.apart {w : World} {B g sx t : Nat} {S : Sto} {H : Nat → Hd} {K : Nat → Ky} {G : List Gv} {ov : Bool} {sg : Value} {top : Nat → Nat} (h : Rng w B g sx t S H K G ov sg top) : RgN g sx t sg := by
  refine ⟨ne_rowsF h.r h.s (by decide), ne_rowsF h.r h.tp (by decide), ne_rowsF h.s h.tp (by decide), fun b hb => ?_⟩
  rcases h.o.2 with ⟨rfl, _⟩ | ⟨q, cap, cur, rfl, _, hr, _⟩
  · simp [Value.ownBlock] at hb
  · simp only [Value.ownBlock, Option.some.injEq] at hb
    subst hb
    exact ⟨ne_rowsF hr h.r (by decide), ne_rowsF hr h.s (by decide), ne_rowsF hr h.tp (by decide)⟩
theorem Rng.called {w w' : World} {B g sx t : Nat} {S : Sto} {H : Nat → Hd} {K : Nat → Ky} {G : List Gv} {ov : Bool} {sg : Value} {top : Nat → Nat} (h : Rng w B g sx t S H K G ov sg top) (hf : Fr [t, sx] w w') : RgR w' g sx t K sg ov ∧ w'.ownsRow B 72 3 sg G.length (gvL G) := by
  have n := h.apart
  have n1 := n.gs
  have n2 := n.gt
  exact ⟨h.r.fr hf (by simp; omega), ownsFr h.o hf (fun b hb => by have := n.og b hb; simp; omega)⟩
theorem Rng.lt {w : World} {B g sx t : Nat} {S : Sto} {H : Nat → Hd} {K : Nat → Ky} {G : List Gv} {ov : Bool} {sg : Value} {top : Nat → Nat} (h : Rng w B g sx t S H K G ov sg top) : g < w.heap.size ∧ sx < w.heap.size ∧ t < w.heap.size := ⟨Row.lt h.r, Row.lt h.s, Row.lt h.tp⟩

theorem ring_nil (sx t : Nat) : (#[.pointer (some ⟨sx, 0, none⟩), .pointer (some ⟨t, 0, none⟩), .int .i64 0, .int .i64 0, .int .i64 0, .int .i64 0, .int .i64 0, .int .i64 0, .int .i64 0, .int .i64 0, .int .i64 0, .int .i64 0, .int .i64 0, .int .i64 0, .int .i64 0, .int .i64 0, .int .i64 0, .int .i64 0, .slice none 0 0, .bool false] : Array Value) = arr 20 (rgV sx t (fun _ => zKy) (.slice none 0 0) false) := rfl
theorem ri_new (t : Nat) : RI { newSto with tab := some t } t (stH newSto 8) (fun _ => zKy) [] false (fun _ => 0) := by
  have hz : ∀ j, ofC (newSto.cell j) = zCl := fun j => by unfold ofC newSto; rfl
  have hst : ∀ j, (stH newSto 8 j).c = zCl ∧ (stH newSto 8 j).ctr = 0 := by
    intro j
    unfold stH
    split
    · rw [hz j]; exact ⟨rfl, rfl⟩
    · exact ⟨rfl, rfl⟩
  have z0 : ∀ j, (ofC (newSto.cell j)).st = 0 := fun j => by rw [hz j]; rfl
  refine ⟨fun j _ => ⟨.inl rfl, by show (0 : Nat) ≤ 64; omega⟩, ⟨fun i j _ _ h => absurd (z0 i) h, fun j _ h => absurd (z0 j) h, fun id _ h => by simp [zKy] at h, fun id _ => Nat.le_refl _, fun id _ _ => ⟨rfl, rfl⟩, fun g hg => by simp at hg⟩, fun _ => ⟨rfl, fun j _ => (hst j).1.trans (hz j).symm, fun j _ h => ?_, fun j _ _ => (hst j).2, fun id _ => ⟨by show (0 : Nat) ≤ 1; omega, by show (0 : Nat) ≤ 1; omega⟩⟩, fun e => by simp at e, by show (0 : Nat) ≤ _; omega, fun j _ h => ?_, fun j _ h => ?_⟩
  · rw [(hst j).1] at h; exact absurd rfl h
  · rw [(hst j).1] at h; exact absurd rfl h
  · rw [(hst j).1] at h; exact absurd rfl h
set_option maxRecDepth 100000 in
set_option maxHeartbeats 4000000 in
theorem opened_any (w : World) (B : Nat) (hB : B ≤ w.heap.size) : Calls Tryz.prog 8 #[] w fun e w' => ∃ g sx t, e = .returned (.pointer (some ⟨g, 0, none⟩)) ∧ Rng w' B g sx t { newSto with tab := some t } (stH newSto 8) (fun _ => zKy) [] false (.slice none 0 0) (fun _ => 0) ∧ Below w.heap.size w w' := by
  have h1 := newStore_any
  have h2 := fun sx w h => start_any sx newSto (fun j _ => by show (0 : Nat) ≤ maxLen; unfold maxLen; omega) w h
  unfold ptr at h1 h2
  have H1 : Hid _ := h1
  have H2 : Hid _ := h2
  clear h1 h2
  have hok : ∀ j, j < 8 → CellOk newSto j := fun j _ => ⟨.inl rfl, fun h => absurd (by unfold ofC newSto; rfl) h⟩
  have HOK : Hid _ := hok
  clear hok
  go_enter Tryz.func8, Tryz.ntmps8
  go_wp2_with fail
  refine (H1.out _).mono ?_
  rintro e w1 ⟨rfl, p1, b1⟩
  have HP : Hid _ := And.intro p1 b1
  clear p1 b1
  go_wp2_with fail
  refine (H2.out _ _ HP.out.1).mono ?_
  rintro e w2 ⟨⟨_, t, ht, rfl, p2, t2⟩ | ⟨hbad, _⟩, f2⟩
  · have HM : Hid _ := And.intro p2 (And.intro t2 (And.intro f2 ht))
    clear p2 t2 f2 ht
    go_wp2
    go_ret
    have y1 := HP.out.2.size
    have l1 := Row.lt HP.out.1
    obtain ⟨p2, t2, f2, ht⟩ := HM.out
    have y2 := f2.size
    have B2 : Below w.heap.size w w2 := HP.out.2.trans (f2.below y1 (by simp))
    refine ⟨w2.heap.size, w.heap.size, t, rfl, ⟨Row.lit _ _ _ _ _ _ rfl (ring_nil _ _), Row.alloc p2 _, Row.alloc t2 _, World.ownsRow_nil _ _ _ _, ri_new t, by omega, hB, by omega⟩, B2.alloc B2.size _⟩
  · exact absurd HOK.out hbad
end Go.Proofs.YtgalgjmhdbncbaaGreat
namespace Go.Proofs.YtgalgjmhdbncbaaGreat
open Go.RowKit
attribute [local go_sem ↓] Go.wp_at_zero Go.wp_at_succ

theorem Rng.of {w1 w2 : World} {B g sx t : Nat} {S : Sto} {H : Nat → Hd} {K : Nat → Ky} {G : List Gv} {ov : Bool} {sg : Value} {top : Nat → Nat} (n : RgN g sx t sg) (hs : StoP w1 sx S) (ht : TabP w1 t sx H) (ho : w1.ownsRow B 72 3 sg G.length (gvL G)) (hf : Fr [g] w1 w2) (hr : RgR w2 g sx t K sg ov) (hi : RI S t H K G ov top) (bg : B ≤ g) (bs : B ≤ sx) (bt : B ≤ t) : Rng w2 B g sx t S H K G ov sg top := by
  have n1 := n.gs
  have n2 := n.gt
  exact ⟨hr, Row.fr hs hf (by simp; omega), Row.fr ht hf (by simp; omega), ownsFr ho hf (fun b hb => by have := n.og b hb; simp; omega), hi, bg, bs, bt⟩
theorem Fr.low {w w' : World} {B : Nat} {L : List Nat} (hf : Fr L w w') (hB : B ≤ w.heap.size) (hL : ∀ k, k ∈ L → B ≤ k) : Below B w w' := hf.below hB hL
theorem cells4K {w : World} {g : Nat} {t : TypeId} {v0 v1 v2 v3 : Value} (h : w.heap[g]? = some (.cells #[v0, v1, v2, v3] t (0, 0))) : w.cell? ⟨g, 0, none⟩ = some v0 ∧ w.cell? ⟨g, 1, none⟩ = some v1 ∧ w.cell? ⟨g, 2, none⟩ = some v2 ∧ w.cell? ⟨g, 3, none⟩ = some v3 := by
  refine ⟨?_, ?_, ?_, ?_⟩
  · rw [cell_of_row _ _ 0 _ _ _ h]; rfl
  · rw [cell_of_row _ _ 1 _ _ _ h]; rfl
  · rw [cell_of_row _ _ 2 _ _ _ h]; rfl
  · rw [cell_of_row _ _ 3 _ _ _ h]; rfl
def RgE (w w' : World) (B g sx t : Nat) (G : List Gv) (sg : Value) (top : Nat → Nat) (P : Sto → (Nat → Hd) → (Nat → Ky) → Bool → Prop) : Prop := (∃ S H K ov, Rng w' B g sx t S H K G ov sg top ∧ P S H K ov) ∧ Below B w w'
def kyC (k : Ky) : Array Value := #[.int .i64 k.there, .int .i64 k.ret, .int .i64 k.seals, .int .i64 k.given]
set_option maxRecDepth 100000 in
set_option maxHeartbeats 4000000 in
theorem retires_any (w : World) (B g sx t : Nat) (S : Sto) (H : Nat → Hd) (K : Nat → Ky) (G : List Gv) (sg : Value) (top : Nat → Nat) (id : Nat) (hid : id < 4) (hB : B ≤ w.heap.size) (h : Rng w B g sx t S H K G false sg top) :
    Calls Tryz.prog 21 #[ptr g, .int .i64 id] w fun e w' => e = .returned (.bool true) ∧ RgE w w' B g sx t G sg top (fun _ _ _ _ => True) := by
  have F0 : Fr [] w (w.alloc (.cells #[.int .i64 (K id).there, .int .i64 (K id).ret, .int .i64 (K id).seals, .int .i64 (K id).given] 35)) := (Fr.refl _ _).alloc _
  have h0 := h.fr0 F0
  have q0 : (w.alloc (.cells #[.int .i64 (K id).there, .int .i64 (K id).ret, .int .i64 (K id).seals, .int .i64 (K id).given] 35)).heap[w.heap.size]? = some (.cells #[.int .i64 (K id).there, .int .i64 (K id).ret, .int .i64 (K id).seals, .int .i64 (K id).given] 35 (0, 0)) := heap_of_new _ _ _ rfl
  have hrt := retire_any t sx H S id h.i.tk h.i.le _ h0.tp h0.s h0.tabIn
  obtain ⟨k0, k1, k2, k3⟩ := h.r.key id hid
  have c1 := h.r.at1
  obtain ⟨l1, l2, l3⟩ := h.lt
  unfold ptr at hrt ⊢
  have HRT : Hid _ := hrt
  have HX : Hid _ := And.intro h (And.intro h0 (And.intro q0 F0))
  clear hrt h h0 q0 F0
  go_enter Tryz.func21, Tryz.ntmps21
  go_wp2_with fail
  refine Calls.mono HRT.out ?_
  rintro e w1 ⟨r, S', H', rfl, hP, p1, tp1, f1⟩
  obtain ⟨h, h0, q0, F0⟩ := HX.out
  have n := h.apart
  have n1 := n.gs
  have n2 := n.gt
  obtain ⟨r1, o1⟩ := h0.called f1
  have k1b := keepRow (g := w.heap.size) f1 q0 (by simp; omega)
  obtain ⟨y0, y1, y2, y3⟩ := cells4K k1b
  have hcase := h.i.retire hid hP
  have F1 : Fr [t, sx] w w1 := (F0.sub (by simp)).trans f1
  have bel : Below B w w1 := F1.low hB (by simp; exact ⟨h.bt, h.bs⟩)
  have hB1 : B ≤ w1.heap.size := Nat.le_trans hB F1.size
  have HM : Hid _ := And.intro n (And.intro p1 (And.intro tp1 (And.intro r1 (And.intro o1 (And.intro bel (And.intro h hB1))))))
  have k19 := r1.at19
  have z19 := Row.frozen r1 19
  have z1 := Row.frozen r1 (2 + id * 4 + 1)
  obtain ⟨kk0, kk1, kk2, kk3⟩ := r1.key id hid
  clear h h0 q0 F0 hP p1 tp1 f1 r1 o1 k1b F1 bel n HX HRT k0 k1 k2 k3 c1
  rcases hcase with ⟨e1, e2, e3, e4⟩ | ⟨e1, e5, e2, e3, e4⟩ | ⟨e1, e5, e2, hRI⟩ | ⟨e1, e5, e2, hRI⟩
  · subst e3 e4
    rw [e1] at y0
    rw [e2]
    clear e1 e2
    go_wp2
    go_ret
    obtain ⟨n, p1, tp1, r1, o1, bel, h, hB1⟩ := HM.out
    exact ⟨rfl, ⟨_, _, _, _, ⟨r1, p1, tp1, o1, h.i, h.bg, h.bs, h.bt⟩, trivial⟩, bel⟩
  · subst e3 e4
    rw [e1] at y0
    rw [e5] at y1
    rw [e2]
    clear e1 e2 e5
    go_wp2
    go_ret
    obtain ⟨n, p1, tp1, r1, o1, bel, h, hB1⟩ := HM.out
    exact ⟨rfl, ⟨_, _, _, _, ⟨r1, p1, tp1, o1, h.i, h.bg, h.bs, h.bt⟩, trivial⟩, bel⟩
  · have HRI : Hid _ := hRI
    rw [e1] at y0
    rw [e5] at y1 kk1
    rw [e2]
    have r2 := HM.out.2.2.2.1.set19 true
    obtain ⟨m0, m1, m2, m3⟩ := r2.key id hid
    rw [e5] at m1
    have HE : Hid _ := And.intro e5 r2
    clear e1 e2 e5 hRI r2
    go_wp2
    go_ret
    obtain ⟨n, p1, tp1, r1, o1, bel, h, hB1⟩ := HM.out
    have r3 := HE.out.2.setKy id 1 hid (by omega) { K id with ret := 2 } (by
      intro i hi hne
      rcases (by omega : i = 0 ∨ i = 2 ∨ i = 3) with rfl | rfl | rfl <;> rfl)
    have FF : Fr [g] w1 ((w1.setCell ⟨g, 19, none⟩ (.bool true)).setCell ⟨g, 2 + id * 4 + 1, none⟩ (.int .i64 2)) := Fr.setCell (Fr.setCell (Fr.refl _ _) (.inr (by simp)) _) (.inr (by simp)) _
    exact ⟨rfl, ⟨_, _, _, _, Rng.of n p1 tp1 o1 FF r3 HRI.out h.bg h.bs h.bt, trivial⟩, bel.trans (FF.low hB1 (by simp; exact h.bg))⟩
  · have HRI : Hid _ := hRI
    rw [e1] at y0
    rw [e5] at y1 kk1
    rw [e2]
    clear e1 e2 e5 hRI
    go_wp2
    go_ret
    obtain ⟨n, p1, tp1, r1, o1, bel, h, hB1⟩ := HM.out
    have r3 := r1.setKy id 1 hid (by omega) { K id with ret := 1 } (by
      intro i hi hne
      rcases (by omega : i = 0 ∨ i = 2 ∨ i = 3) with rfl | rfl | rfl <;> rfl)
    have FF : Fr [g] w1 (w1.setCell ⟨g, 2 + id * 4 + 1, none⟩ (.int .i64 1)) := Fr.setCell (Fr.refl _ _) (.inr (by simp)) _
    exact ⟨rfl, ⟨_, _, _, _, Rng.of n p1 tp1 o1 FF r3 HRI.out h.bg h.bs h.bt, trivial⟩, bel.trans (FF.low hB1 (by simp; exact h.bg))⟩
end Go.Proofs.YtgalgjmhdbncbaaGreat
