import Derived.Test.YtgalgjmhdbncbaaQ8
import Derived.Test.YtgalgjmhdbncbaaQ4
import Derived.Test.YtgalgjmhdbncbaaU1
namespace Go.Proofs.Ytgalgjmhdbncbaa
open Go.RowKit
attribute [local go_sem ↓] Go.wp_at_zero Go.wp_at_succ

/-! ### Parsed -/
/-- a record in memory -/
def Rc (w : World) (g : Nat) (v0 v1 v2 v3 v4 : Value) : Prop := w.heap[g]? = some (.cells #[v0, v1, v2, v3, v4] 41 (0, 0))
theorem Rc.keep {w w1 : World} {g B : Nat} {v0 v1 v2 v3 v4 : Value} (h : Rc w g v0 v1 v2 v3 v4) (hb : Below B w w1) (hg : g < B) : Rc w1 g v0 v1 v2 v3 v4 := by unfold Rc; rw [hb.block g hg]; exact h
theorem Rc.s0 {w : World} {g : Nat} {v0 v1 v2 v3 v4 : Value} (v : Value) (h : Rc w g v0 v1 v2 v3 v4) : Rc (w.setCell ⟨g, 0, none⟩ v) g v v1 v2 v3 v4 := by have := heap_setCell_same w g 0 _ 41 v h; simpa [Rc] using this
theorem Rc.s1 {w : World} {g : Nat} {v0 v1 v2 v3 v4 : Value} (v : Value) (h : Rc w g v0 v1 v2 v3 v4) : Rc (w.setCell ⟨g, 1, none⟩ v) g v0 v v2 v3 v4 := by have := heap_setCell_same w g 1 _ 41 v h; simpa [Rc] using this
theorem Rc.s2 {w : World} {g : Nat} {v0 v1 v2 v3 v4 : Value} (v : Value) (h : Rc w g v0 v1 v2 v3 v4) : Rc (w.setCell ⟨g, 2, none⟩ v) g v0 v1 v v3 v4 := by have := heap_setCell_same w g 2 _ 41 v h; simpa [Rc] using this
theorem Rc.s3 {w : World} {g : Nat} {v0 v1 v2 v3 v4 : Value} (v : Value) (h : Rc w g v0 v1 v2 v3 v4) : Rc (w.setCell ⟨g, 3, none⟩ v) g v0 v1 v2 v v4 := by have := heap_setCell_same w g 3 _ 41 v h; simpa [Rc] using this
theorem Rc.s4 {w : World} {g : Nat} {v0 v1 v2 v3 v4 : Value} (v : Value) (h : Rc w g v0 v1 v2 v3 v4) : Rc (w.setCell ⟨g, 4, none⟩ v) g v0 v1 v2 v3 v := by have := heap_setCell_same w g 4 _ 41 v h; simpa [Rc] using this
theorem Rc.fr {w : World} {g : Nat} {v0 v1 v2 v3 v4 : Value} (h : Rc w g v0 v1 v2 v3 v4) (j : Nat) : w.frozen? ⟨g, j, none⟩ = false := frozen_of_row _ _ j _ _ h
theorem Rc.lt {w : World} {g : Nat} {v0 v1 v2 v3 v4 : Value} (h : Rc w g v0 v1 v2 v3 v4) : g < w.heap.size := by
  unfold Rc at h
  rw [Array.getElem?_eq_some_iff] at h
  exact h.1
theorem parse_badL (s : ByteArray) (p : Nat) (hs : s.size ≤ maxLen) (h : badAt s = some p) (w : World) :
    Calls Try.prog 30 #[.string s] w fun e w' => e = .returned (.tuple #[.agg #[.int .i64 0, .int .i64 0, .string ⟨#[]⟩, .string ⟨#[]⟩, .string ⟨#[]⟩], .int .i64 p, .int .i64 7]) ∧ Below w.heap.size w w' := parse_bad s p hs h w
set_option maxRecDepth 100000 in
set_option maxHeartbeats 4000000 in
theorem parsed_law (a i at' : Int) (n b t s : ByteArray) (ha1 : -9223372036854775808 ≤ a) (ha2 : a ≤ 9223372036854775807) (hi1 : -9223372036854775808 ≤ i) (hi2 : i ≤ 9223372036854775807) (h1 : -9223372036854775808 ≤ at') (h2 : at' ≤ 9223372036854775807)
    (hn : n.size ≤ maxLen) (ht : t.size ≤ maxLen) (hs : s.size ≤ 140737488351232) (w : World) :
    Calls Try.prog 11 #[recV a i n b t, .int .i64 at', .string s] w fun e w' => e = .returned (.bool true) ∧ Below w.heap.size w w' := by
  have HN : Hid _ := hn
  have HT : Hid _ := ht
  clear hn ht
  unfold recV
  go_enter Try.func11, Try.ntmps11
  go_wp2_with fail
  refine (pick_any a 3 ha1 ha2 (by omega) (by omega) _).mono ?_
  rintro e w1 ⟨⟨r, hr, rfl⟩, hw⟩
  have R1 : Rc w1 w.heap.size (.int .i64 a) (.int .i64 i) (.string n) (.string b) (.string t) := by rw [hw]; exact heap_of_new _ _ _ rfl
  have B1 : Below w.heap.size w w1 := by rw [hw]; exact (Below.refl _ w).alloc (Nat.le_refl _) _
  clear hw
  obtain ⟨c0, c1, c2, c3, c4⟩ := cells5 R1
  have f0 := R1.fr
  have l0 := R1.lt
  go_wp2_with fail
  refine (pick_any i 65536 hi1 hi2 (by omega) (by omega) _).mono ?_
  rintro e w2 ⟨⟨I, hI, rfl⟩, hw⟩
  have R2 : Rc w2 w.heap.size (.int .i64 (1 + (r : Int))) (.int .i64 i) (.string n) (.string b) (.string t) := by rw [hw]; exact R1.s0 _
  have B2 : Below w.heap.size w w2 := by rw [hw]; exact B1.setCell (Nat.le_refl _) _
  clear hw R1 B1 c0 c1 c2 c3 c4 f0 l0
  obtain ⟨c0, c1, c2, c3, c4⟩ := cells5 R2
  have f0 := R2.fr
  have l0 := R2.lt
  go_wp2_with fail
  refine (just_any n 12 (by omega) HN.out _).mono ?_
  rintro e w3 ⟨rfl, b3⟩
  have R3 := (R2.s1 (.int .i64 (I : Int))).keep b3 (by simp; exact l0)
  have B3 := (B2.setCell (p := ⟨w.heap.size, 1, none⟩) (Nat.le_refl _) (.int .i64 (I : Int))).trans (b3.mono (by simp; omega))
  clear b3 R2 B2 c0 c1 c2 c3 c4 f0 l0
  obtain ⟨c0, c1, c2, c3, c4⟩ := cells5 R3
  have f0 := R3.fr
  have l0 := R3.lt
  have zN := str_size 12 (sf n)
  generalize str 12 (sf n) = N at *
  go_wp2_with fail
  refine (upVo_any b 200 (by omega) _).mono ?_
  rintro e w4 ⟨rfl, hw⟩
  have R4 : Rc w4 w.heap.size (.int .i64 (1 + (r : Int))) (.int .i64 (I : Int)) (.string N) (.string b) (.string t) := by rw [hw]; exact R3.s2 _
  have B4 : Below w.heap.size w w4 := by rw [hw]; exact B3.setCell (Nat.le_refl _) _
  clear hw R3 B3 c0 c1 c2 c3 c4 f0 l0
  have zB : (upV b 200).size ≤ 200 := upV_le _ _
  generalize upV b 200 = Bd at *
  obtain ⟨c0, c1, c2, c3, c4⟩ := cells5 R4
  have f0 := R4.fr
  have l0 := R4.lt
  go_wp2_with fail
  refine (just_any t 16 (by omega) HT.out _).mono ?_
  rintro e w5 ⟨rfl, b5⟩
  have R5 := (R4.s3 (.string Bd)).keep b5 (by simp; exact l0)
  have B5 := (B4.setCell (p := ⟨w.heap.size, 3, none⟩) (Nat.le_refl _) (.string Bd)).trans (b5.mono (by simp; omega))
  clear b5 R4 B4 c0 c1 c2 c3 c4 f0 l0
  have zT := str_size 16 (sf t)
  generalize str 16 (sf t) = T at *
  obtain ⟨c0, c1, c2, c3, c4⟩ := cells5 R5
  have f0 := R5.fr
  have l0 := R5.lt
  have RR : IsRec (1 + r) I N Bd T := ⟨by omega, by omega, by omega, zN, zB, zT⟩
  have HR : Hid _ := RR
  have hE := fun w => encode_yes (1 + r) I N Bd T (by omega) (by omega) (by omega) zN zB zT w
  rw [show ((1 + r : Nat) : Int) = 1 + (r : Int) by omega] at hE
  have HE : Hid _ := hE
  have hPE := fun w => parse_enc (1 + r) I N Bd T RR w
  rw [show ((1 + r : Nat) : Int) = 1 + (r : Int) by omega] at hPE
  have HPE : Hid _ := hPE
  have zE := encT_size (1 + r) I N Bd T
  have HC : Hid _ := fun k hk => bad_cut RR k hk
  have HM : Hid _ := fun x hx => bad_more RR x hx
  clear RR hE hPE HR
  generalize encT (1 + r) I N Bd T = E at *
  unfold recV at HE HPE
  go_wp2_with fail
  refine (HE.out _).mono ?_
  rintro e w6 ⟨rfl, b6⟩
  have R6 := (R5.s4 (.string T)).keep b6 (by simp; exact l0)
  have B6 := (B5.setCell (p := ⟨w.heap.size, 4, none⟩) (Nat.le_refl _) (.string T)).trans (b6.mono (by simp; omega))
  clear b6 R5 B5 c0 c1 c2 c3 c4 f0 l0 HE
  go_wp2_with fail
  refine (HPE.out _).mono ?_
  rintro e w7 ⟨rfl, b7⟩
  have R7 := R6.keep b7 R6.lt
  have B7 := B6.trans (b7.mono B6.size)
  clear b7 R6 B6 HPE
  obtain ⟨c0, c1, c2, c3, c4⟩ := cells5 R7
  have f0 := R7.fr
  have l0 := R7.lt
  have hpk := fun w => pick_any at' (36 + Bd.size) h1 h2 (by omega) (by omega) w
  rw [show ((36 + Bd.size : Nat) : Int) = 36 + (Bd.size : Int) by omega] at hpk
  have HPK : Hid _ := hpk
  clear hpk
  go_wp2_with fail
  refine (HPK.out _).mono ?_
  rintro e w8 ⟨⟨q, hq, rfl⟩, hw⟩
  have B8 : Below w.heap.size w w8 := by rw [hw]; exact B7.alloc B7.size _
  clear hw B7 R7 c0 c1 c2 c3 c4 f0 l0 HPK
  have hqi : (q : Int) ≤ 36 + (Bd.size : Int) := by omega
  go_wp2_with fail
  refine (parse_badL (E.extract 0 q) q (by rw [cut_size _ _ _ (by omega)]; unfold maxLen; omega) (HC.out q hq) _).mono ?_
  rintro e w9 ⟨rfl, b9⟩
  have B9 := B8.trans (b9.mono B8.size)
  clear b9 B8 HC
  go_wp2_with fail
  refine (upVo_more s _ 9 (by omega) (by omega) rfl _).mono ?_
  rintro e w10 ⟨⟨X, hX1, hX2, rfl⟩, hw⟩
  subst hw
  have zX : (E ++ X).size = E.size + X.size := ByteArray.size_append
  go_wp2_with fail
  refine (parse_badL (E ++ X) (36 + Bd.size) (by rw [zX]; unfold maxLen; omega) (HM.out X (by omega)) _).mono ?_
  rintro e w11 ⟨rfl, b11⟩
  have B11 := B9.trans (b11.mono B9.size)
  clear b11 B9 HM
  have z11 := B11.size
  cases hbs : badAt s with
  | some p =>
    have hp := bad_le s p hbs
    have HP : Hid _ := hbs
    clear hbs
    have hpi : (p : Int) ≤ (s.size : Int) := by omega
    go_wp2_with fail
    refine (parse_badL s p (by unfold maxLen; omega) HP.out _).mono ?_
    rintro e w12 ⟨rfl, b12⟩
    have B12 := (B11.alloc z11 (.cells #[.int .i64 0, .int .i64 0, .string ⟨#[]⟩, .string ⟨#[]⟩, .string ⟨#[]⟩] 41)).trans (b12.mono (by simp; omega))
    clear b12
    go_wp2
    go_ret
    exact ⟨rfl, B12.alloc B12.size _⟩
  | none =>
    have hRd := bad_none s hbs
    have HP : Hid _ := hbs
    have hok := fun w => parse_ok s (by unfold maxLen; omega) hbs w
    have hz := hRd.z
    have hE2 := fun w => encode_yes _ _ _ _ _ hRd.r.a1 hRd.r.a2 hRd.r.i hRd.r.n hRd.r.b hRd.r.t w
    rw [hRd.e] at hE2
    clear hbs HP
    generalize (sf s 3).toNat = A' at *
    generalize valF (sf s) 4 2 = I' at *
    generalize s.extract 6 18 = N' at *
    generalize s.extract 20 (20 + (sf s 19).toNat) = B' at *
    generalize s.extract (20 + (sf s 19).toNat) (36 + (sf s 19).toNat) = T' at *
    unfold recV at hok hE2
    have HOK : Hid _ := hok
    have HE2 : Hid _ := hE2
    clear hok hE2 hRd hz
    go_wp2_with fail
    refine (HOK.out _).mono ?_
    rintro e w12 ⟨rfl, b12⟩
    have B12 := (B11.alloc z11 (.cells #[.int .i64 0, .int .i64 0, .string ⟨#[]⟩, .string ⟨#[]⟩, .string ⟨#[]⟩] 41)).trans (b12.mono (by simp; omega))
    have z12 := B12.size
    clear b12
    go_wp2_with fail
    refine (HE2.out _).mono ?_
    rintro e w13 ⟨rfl, b13⟩
    have B13 := (B12.alloc z12 _).trans (b13.mono (by simp; omega))
    clear b13
    go_wp2
    go_ret
    exact ⟨rfl, B13⟩
end Go.Proofs.Ytgalgjmhdbncbaa
