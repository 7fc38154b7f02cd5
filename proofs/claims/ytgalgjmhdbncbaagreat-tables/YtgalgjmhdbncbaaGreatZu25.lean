import Derived.Test.YtgalgjmhdbncbaaGreatZu24
import Derived.Deep.AppendLies
import Derived.Deep.DeepCutAuto
import Derived.Deep.CutBlock
import Derived.Deep.RegionLaw
import Derived.StillTailTactics
namespace Go.Proofs.YtgalgjmhdbncbaaGreat
open Go.RowKit
attribute [local go_sem ↓] Go.wp_at_zero Go.wp_at_succ

theorem still_tail {id : Nat} {Q : Exit → Act → World → Prop} {a : Act} {w : World} {l : List Oper} (n : Nat) (hm : Tryz.prog.follows .mixedOrders = true) (hB : Region.lexTailB .any l.toArray n = true)
    (h : wpStill Tryz.prog l.toArray w.drew (fun a' => wpList Tryz.prog l.toArray Q (l.drop n) a' w.drew) (l.take n) a) : (Code.region id l.toArray true).wp Tryz.prog Q a w := wp_region_still_tail n hm hB h
theorem mixed : Tryz.prog.follows .mixedOrders = true := by kernel_rfl
theorem step_ap {ops : Array Oper} {o : Oper} {a : Act} {W : World} {K : Act → World → Prop} {Q : Exit → Act → World → Prop} {E : Prop} (hgd : o.guard = none) (s x : Operand)
    (ho : o.op = .call { callee := .builtin .append, args := #[s, x], argTypes := #[213, 213] }) (base n g cap : Nat) (f : Nat → UInt8) (hs : a.eval s = .slice (some ⟨g, 0, none⟩) n cap) (hown : Own W base (.slice (some ⟨g, 0, none⟩) n cap) n f) (y : UInt8)
    (hx : a.eval x = .slice (some ⟨W.heap.size, 0, none⟩) 1 1) (hn : n ≤ 1000000) (hbase : base ≤ W.heap.size)
    (h : ∀ g' cap' w', Own w' base (.slice (some ⟨g', 0, none⟩) (n + 1) cap') (n + 1) (fun j => if j = n then y else f j) → Below base W w' → (∀ k, k < W.heap.size → k ≠ g → w'.heap[k]? = W.heap[k]?) → (g' = g ∨ W.heap.size < g') → g' < w'.heap.size →
      K (a.put o.dst (.slice (some ⟨g', 0, none⟩) (n + 1) cap')) w') :
    if Region.wanted o (yielded ops a.tmps) = true then Oper.wp Tryz.prog o a (W.alloc (.cells #[.int .i64 (y.toNat : Int)] 3)).drew K Q else E := by
  obtain ⟨i0, hi, hz0, hz1, hz2⟩ := info_parts info3
  have ho1 : Own (W.alloc (.cells #[.int .i64 (y.toNat : Int)] 3)).drew base (.slice (some ⟨g, 0, none⟩) n cap) n f := hown.alloc _
  refine step_append_lies _ hgd s x 213 ho base 3 i0 (.int .i64 0) 1 8 Tryz.underlying213 hi hz0 hz1 hz2 rfl (by decide) _ n (cl n (in8 f)) hs ho1 ⟨W.heap.size, 0, none⟩ 1 1 [.int .i64 (y.toNat : Int)] hx rfl (cell_one_new _ _ _)
    (fun u hu => by simp at hu; subst hu; rfl) (by omega) (by unfold maxLen; omega) (by omega) (by show base ≤ (W.alloc (.cells #[.int .i64 (y.toNat : Int)] 3)).heap.size; simp; omega) (W.heap.size + 1) (by show (W.alloc (.cells #[.int .i64 (y.toNat : Int)] 3)).heap.size = _; simp) ?_
  intro g' cap' w' h1 h2 h3 h4
  rw [cl_snoc] at h1
  have hbk : ∀ k, k < W.heap.size → k ≠ g → w'.heap[k]? = W.heap[k]? := by
    intro k hk hkg
    rw [h2.block k (by show k < (W.alloc (.cells #[.int .i64 (y.toNat : Int)] 3)).heap.size; simp; omega) (by simp [Value.ownBlock, hkg])]
    exact Below.heap_alloc W _ k hk
  refine h g' cap' w' h1 (((Below.refl base W).alloc hbase _).drew.trans (below_grown h2 (by show base ≤ (W.alloc (.cells #[.int .i64 (y.toNat : Int)] 3)).heap.size; simp; omega) hown.block)) hbk ?_ h4
  rcases h3 with h3 | h3
  · left
    simp [Value.ownBlock] at h3
    omega
  · right; omega

theorem quad3 (a b c d : UInt8) : (#[.int .i64 a.toNat, .int .i64 b.toNat, .int .i64 c.toNat, .int .i64 d.toNat] : Array Value) = arr 4 (in8 (fun j => if j = 0 then a else if j = 1 then b else if j = 2 then c else d)) := rfl
structure S37 (w0 w : World) (g A cap gt : Nat) (R L : Nat → UInt8) : Prop where
  o : Own w w0.heap.size (.slice (some ⟨g, 0, none⟩) A cap) A R
  r : Row w gt 4 3 (in8 L)
  lt : g < gt
  b : Below w0.heap.size w0 w
theorem S37.pre {w0 w : World} {g A cap gt gs : Nat} {R L : Nat → UInt8} (h : S37 w0 w g A cap gt R L) (hp : Pre w0 gs 256 sbx) : Pre w gs 256 sbx := hp.keep h.b hp.1
theorem S37.new {w0 w : World} {g A cap gt : Nat} {R L L' : Nat → UInt8} {cs : Array Value} (h : S37 w0 w g A cap gt R L) (hc : cs = arr 4 (in8 L')) : S37 w0 (w.alloc (.cells cs 3)).drew g A cap w.heap.size R L' := by
  subst hc
  exact ⟨h.o.alloc _, (Row.new _ _ _ _ _ rfl).drew, Nat.lt_trans h.lt h.r.lt, (h.b.alloc h.b.size _).drew⟩
theorem sf_idx (s : ByteArray) (k : Nat) (h : k < s.size) : s[k] = sf s k := by
  have h' : k < s.data.size := h
  show s.data[k] = s.data.getD k 0
  simp [Array.getElem?_eq_getElem h']

set_option maxRecDepth 100000 in
set_option maxHeartbeats 4000000 in
theorem expand_ref (s : ByteArray) (hs : s.size = 16 ∨ s.size = 24 ∨ s.size = 32) (gs capS : Nat) (w : World) (hp : Pre w gs 256 sbx) (_hcs : 256 ≤ capS) :
    Calls Tryz.prog 143 #[.string s, .slice (some ⟨gs, 0, none⟩) 256 capS] w fun e w' => ∃ g cap, e = .returned (.slice (some ⟨g, 0, none⟩) (4 * s.size + 112) cap) ∧ 4 * s.size + 112 ≤ cap ∧ Pre w' g (4 * s.size + 112) (ksF (sf s) s.size) ∧ Below w.heap.size w w' := by
  have hle : s.size ≤ 32 := by omega
  have hge : 16 ≤ s.size := by omega
  have HS : Hid _ := hs
  clear hs
  have hgs := hp.1
  go_enter Tryz.func143, Tryz.ntmps143
  go_wp2
  go_loopw [7, 8] (fun v i wr => ∃ k : Nat, k ≤ s.size ∧ i = .int .i64 k ∧ Own wr w.heap.size v k (sf s) ∧ Below w.heap.size w wr) (fun _ i _ => s.size - (intOf i).toNat)
  case atStart => exact ⟨0, by omega, rfl, Own.nil _ _ _, Below.refl _ _⟩
  case round =>
    obtain ⟨k, hk, rfl, ho, hB⟩ := hrel
    by_cases hlt : k < s.size
    · have hix := sf_idx s k hlt
      have hbb : ((sf s k).toNat : Int) < 256 := by have := (sf s k).toNat_lt; omega
      go_wp2_with (at_builtin; refine ap1 rfl _ _ rfl w.heap.size k _ (sf s) rfl ho (sf s k) rfl (by omega) hB.size ?_; intro v' w' ho' hb')
      go_roundw
      case rel => exact ⟨k + 1, by omega, by go_num, ho'.congr (fun j hj => by split <;> simp_all), hB.trans hb'⟩
      case measure => simp [intOf]; omega
    · have hks : k = s.size := by omega
      subst hks
      have ho0 : Own wr w.heap.size u7 s.size (kxR sbx (sf s) s.size 0).1 := ho.congr (fun j hj => by simp only [kxR]; rw [if_pos hj])
      clear ho
      go_wp2
      go_loopw [7, 9, 10] (fun v c a wx => ∃ t A g cap : Nat, Hid (A = s.size + 4 * t) ∧ s.size ≤ A ∧ A ≤ 4 * s.size + 112 ∧ c = .int .i64 (kxR sbx (sf s) s.size t).2.toNat ∧ a = .int .i64 A ∧ v = .slice (some ⟨g, 0, none⟩) A cap ∧
         Own wx w.heap.size v A (kxR sbx (sf s) s.size t).1 ∧ Below w.heap.size w wx) (fun _ _ a _ => 300 - (intOf a).toNat)
      case atStart =>
        obtain ⟨g, cap, rfl, _⟩ := ho0.got (by omega)
        exact ⟨0, s.size, g, cap, rfl, Nat.le_refl _, by omega, rfl, rfl, rfl, ho0, hB⟩
      case round =>
        clear ho0 hB
        obtain ⟨t, A, g, cap, HA, hA1, hA2, rfl, rfl, rfl, ho, hB⟩ := hrel
        obtain ⟨_, _, e, hg1, hg2, hg3, hg4⟩ := ho.got (by omega)
        cases e
        have hcap : (A : Int) ≤ (cap : Int) := by omega
        by_cases hlt : A < 4 * s.size + 112
        · have hA4 : A + 4 ≤ 4 * s.size + 112 := by
            have e1 := HA.out
            rcases HS.out with e3 | e3 | e3 <;> omega
          have c0 := hg4 (A - 4) (by omega)
          have c1 := hg4 (A - 3) (by omega)
          have c2 := hg4 (A - 2) (by omega)
          have c3 := hg4 (A - 1) (by omega)
          generalize hR : (kxR sbx (sf s) s.size t).1 = R at *
          generalize hC : (kxR sbx (sf s) s.size t).2 = C at *
          have HRR : Hid _ := hR
          have HCC : Hid _ := hC
          clear hR hC hg4
          have HO : Hid _ := ho
          clear ho
          have hd : decide ((A : Int) < 16 * ((s.size : Int) / 4 + 6 + 1)) = true := by
            have : A < 16 * (s.size / 4 + 6 + 1) := by rcases HS.out with e3 | e3 | e3 <;> omega
            simp; omega
          have w4 : IntKind.i64.wrap ((A : Int) - 4) = (A : Int) - 4 := by rw [IntKind.wrap_i64]; omega
          have w3 : IntKind.i64.wrap ((A : Int) - 3) = (A : Int) - 3 := by rw [IntKind.wrap_i64]; omega
          have w2 : IntKind.i64.wrap ((A : Int) - 2) = (A : Int) - 2 := by rw [IntKind.wrap_i64]; omega
          have w1 : IntKind.i64.wrap ((A : Int) - 1) = (A : Int) - 1 := by rw [IntKind.wrap_i64]; omega
          have i4 : (0 ≤ (A : Int) - 4 ∧ (A : Int) - 4 < (A : Int)) = True := eq_true (by omega)
          have i3 : (0 ≤ (A : Int) - 3 ∧ (A : Int) - 3 < (A : Int)) = True := eq_true (by omega)
          have i2 : (0 ≤ (A : Int) - 2 ∧ (A : Int) - 2 < (A : Int)) = True := eq_true (by omega)
          have i1 : (0 ≤ (A : Int) - 1 ∧ (A : Int) - 1 < (A : Int)) = True := eq_true (by omega)
          have j4 : (4 : Int) ≤ (A : Int) := by omega
          have j3 : (3 : Int) ≤ (A : Int) := by omega
          have j2 : (2 : Int) ≤ (A : Int) := by omega
          have j1 : (1 : Int) ≤ (A : Int) := by omega
          have k4 : ((A : Int) - 4).toNat = A - 4 := by omega
          have k3 : ((A : Int) - 3).toNat = A - 3 := by omega
          have k2 : ((A : Int) - 2).toNat = A - 2 := by omega
          have k1 : ((A : Int) - 1).toNat = A - 1 := by omega
          have l4 : (A : Int) - 4 < (A : Int) := by omega
          have l3 : (A : Int) - 3 < (A : Int) := by omega
          have l2 : (A : Int) - 2 < (A : Int) := by omega
          have l1 : (A : Int) - 1 < (A : Int) := by omega
          go_wp2_with fail
          refine still_tail 20 mixed (by kernel_rfl) ?_; simp only [List.take_succ_cons, List.take_zero, List.drop_succ_cons, List.drop_zero]; repeat still_step
          refine wpStill_nil ?_
          go_upto_if 62 with fail
          have hS : S37 w (wr.alloc (.cells #[.int .i64 (R (A - 4)).toNat, .int .i64 (R (A - 3)).toNat, .int .i64 (R (A - 2)).toNat, .int .i64 (R (A - 1)).toNat] 3)).drew g A cap wr.heap.size R (fun j => R (A - 4 + j)) := by
            refine ⟨HO.out.alloc _, ?_, hg2, (hB.alloc hB.size _).drew⟩
            have hrow := Row.new wr 4 3 (in8 (fun j => if j = 0 then R (A - 4) else if j = 1 then R (A - 3) else if j = 2 then R (A - 2) else R (A - 1))) wr.heap.size rfl
            refine Row.congr hrow.drew ?_
            intro j hj
            match j, hj with
            | 0, _ => rfl
            | 1, _ => simp only [in8]; rw [show A - 4 + 1 = A - 3 by omega]; rfl
            | 2, _ => simp only [in8]; rw [show A - 4 + 2 = A - 2 by omega]; rfl
            | 3, _ => simp only [in8]; rw [show A - 4 + 3 = A - 1 by omega]; rfl
          suffices HH : ∀ W, S37 w W g A cap wr.heap.size R (fun j => R (A - 4 + j)) → Code.wp Tryz.prog _ _ _ W from HH _ (by exact hS)
          intro W hS2
          clear hS c0 c1 c2 c3 HO hB w4 w3 w2 w1 i4 i3 i2 i1 j4 j3 j2 j1 k4 k3 k2 k1 l4 l3 l2 l1
          go_cut [9, 11] (fun c tv wx => ∃ gt, c = .int .i64 (if A % s.size = 0 then dbl C else C).toNat ∧ tv = .slice (some ⟨gt, 0, none⟩) 4 4 ∧
            S37 w wx g A cap gt R (fun j => if A % s.size = 0 then sw sbx s.size A C R j else R (A - 4 + j)))
          case first =>
            have c0 := hS2.r.cell 0 (by omega)
            have c1 := hS2.r.cell 1 (by omega)
            have c2 := hS2.r.cell 2 (by omega)
            have c3 := hS2.r.cell 3 (by omega)
            simp only [in8, Nat.add_zero] at c0 c1 c2 c3
            have pt := hS2.pre hp
            have d0 := pt.2 (R (A - 4)).toNat (R (A - 4)).toNat_lt
            have d1 := pt.2 (R (A - 4 + 1)).toNat (R (A - 4 + 1)).toNat_lt
            have d2 := pt.2 (R (A - 4 + 2)).toNat (R (A - 4 + 2)).toNat_lt
            have d3 := pt.2 (R (A - 4 + 3)).toNat (R (A - 4 + 3)).toNat_lt
            have b0 : ((R (A - 4)).toNat : Int) < 256 := by have := (R (A - 4)).toNat_lt; omega
            have b1 : ((R (A - 4 + 1)).toNat : Int) < 256 := by have := (R (A - 4 + 1)).toNat_lt; omega
            have b2 : ((R (A - 4 + 2)).toNat : Int) < 256 := by have := (R (A - 4 + 2)).toNat_lt; omega
            have b3 : ((R (A - 4 + 3)).toNat : Int) < 256 := by have := (R (A - 4 + 3)).toNat_lt; omega
            by_cases h0 : A % s.size = 0
            · have hb : (((A : Int) % (s.size : Int)) == 0) = true := beq_iff_eq.2 (by omega)
              have H0 : Hid _ := h0
              clear h0
              go_wp2_with fail
              refine still_tail 26 mixed (by kernel_rfl) ?_; simp only [List.take_succ_cons, List.take_zero, List.drop_succ_cons, List.drop_zero]; repeat still_step
              refine wpStill_nil ?_
              go_wp2_with (go_at_call 144; refine (times_x2 _ _).mono ?_; rintro e w5 ⟨rfl, hw5⟩; subst hw5)
              go_meet
              refine ⟨W.heap.size, by rw [if_pos H0.out], rfl, ?_⟩
              rw [i64_xor_b]
              have hn := hS2.new (L' := fun j => if j = 0 then sbx (R (A - 4 + 1)).toNat ^^^ C else if j = 1 then sbx (R (A - 4 + 2)).toNat else if j = 2 then sbx (R (A - 4 + 3)).toNat else sbx (R (A - 4)).toNat) rfl
              refine ⟨hn.o, hn.r.congr (fun j hj => ?_), hn.lt, hn.b⟩
              simp only [in8]
              rw [if_pos H0.out]
              unfold sw
              rw [if_pos H0.out]
              match j, hj with
              | 0, _ => rfl
              | 1, _ => simp
              | 2, _ => simp
              | 3, _ => simp
            · have hb : (((A : Int) % (s.size : Int)) == 0) = false := beq_eq_false_iff_ne.2 (by omega)
              have H0 : Hid _ := h0
              clear h0
              go_wp2
              go_meet
              exact ⟨_, by rw [if_neg H0.out], rfl, hS2.o, hS2.r.congr (fun j hj => by simp only [in8]; rw [if_neg H0.out]), hS2.lt, hS2.b⟩
          case rest =>
            clear hS2
            obtain ⟨gt, rfl, rfl, hS⟩ := hcut
            generalize hC' : (if A % s.size = 0 then dbl C else C) = C' at *
            have HC' : Hid _ := hC'
            clear hC'
            generalize hL : (fun j => if A % s.size = 0 then sw sbx s.size A C R j else R (A - 4 + j)) = L1 at *
            have HL : Hid _ := hL
            clear hL
            go_upto_region 16 with fail
            suffices HH : ∀ W, S37 w W g A cap gt R L1 → Code.wp Tryz.prog _ _ _ W from HH _ hS
            intro W hS
            go_cut [99] (fun b wx => b = .bool (decide (s.size = 32 ∧ A % s.size = 16)) ∧ S37 w wx g A cap gt R L1)
            case first =>
              by_cases h32 : s.size = 32
              · have hb1 : ((s.size : Int) == 32) = true := beq_iff_eq.2 (by omega)
                by_cases h16 : A % s.size = 16
                · have hb2 : (((A : Int) % (s.size : Int)) == 16) = true := beq_iff_eq.2 (by omega)
                  have HD : Hid (decide (s.size = 32 ∧ A % s.size = 16) = true) := decide_eq_true ⟨h32, h16⟩
                  clear h32 h16
                  go_wp2
                  go_meet
                  exact ⟨by rw [HD.out], hS⟩
                · have hb2 : (((A : Int) % (s.size : Int)) == 16) = false := beq_eq_false_iff_ne.2 (by omega)
                  have HD : Hid (decide (s.size = 32 ∧ A % s.size = 16) = false) := decide_eq_false (fun h => h16 h.2)
                  clear h32 h16
                  go_wp2
                  go_meet
                  exact ⟨by rw [HD.out], hS⟩
              · have hb1 : ((s.size : Int) == 32) = false := beq_eq_false_iff_ne.2 (by omega)
                have HD : Hid (decide (s.size = 32 ∧ A % s.size = 16) = false) := decide_eq_false (fun h => h32 h.1)
                clear h32
                go_wp2
                go_meet
                exact ⟨by rw [HD.out], hS⟩
            case rest =>
              clear hS
              obtain ⟨rfl, hS⟩ := hcut
              generalize hD : decide (s.size = 32 ∧ A % s.size = 16) = D at *
              have HD : Hid _ := hD
              clear hD
              go_upto_if 99 with fail
              suffices HH : ∀ W, S37 w W g A cap gt R L1 → Code.wp Tryz.prog _ _ _ W from HH _ hS
              intro W hS
              go_cut [11] (fun tv wx => ∃ gt, tv = .slice (some ⟨gt, 0, none⟩) 4 4 ∧ S37 w wx g A cap gt R (sw sbx s.size A C R))
              case first =>
                cases D
                · go_wp2
                  go_meet
                  refine ⟨gt, rfl, hS.o, hS.r.congr (fun j hj => ?_), hS.lt, hS.b⟩
                  simp only [in8]
                  rw [← HL.out]
                  unfold sw
                  have hno := of_decide_eq_false HD.out
                  by_cases h0 : A % s.size = 0
                  · simp only [if_pos h0]
                  · simp only [if_neg h0]
                    rw [if_neg hno]
                · have hyes := of_decide_eq_true HD.out
                  have h0 : ¬ A % s.size = 0 := by omega
                  have hL1 : ∀ j, L1 j = R (A - 4 + j) := fun j => by rw [← HL.out]; simp only [if_neg h0]
                  have HY : Hid _ := hyes
                  have H0 : Hid _ := h0
                  clear hyes h0
                  have c0 := hS.r.cell 0 (by omega)
                  have c1 := hS.r.cell 1 (by omega)
                  have c2 := hS.r.cell 2 (by omega)
                  have c3 := hS.r.cell 3 (by omega)
                  simp only [in8, hL1, Nat.add_zero] at c0 c1 c2 c3
                  have pt := hS.pre hp
                  have d0 := pt.2 (R (A - 4)).toNat (R (A - 4)).toNat_lt
                  have d1 := pt.2 (R (A - 4 + 1)).toNat (R (A - 4 + 1)).toNat_lt
                  have d2 := pt.2 (R (A - 4 + 2)).toNat (R (A - 4 + 2)).toNat_lt
                  have d3 := pt.2 (R (A - 4 + 3)).toNat (R (A - 4 + 3)).toNat_lt
                  have b0 : ((R (A - 4)).toNat : Int) < 256 := by have := (R (A - 4)).toNat_lt; omega
                  have b1 : ((R (A - 4 + 1)).toNat : Int) < 256 := by have := (R (A - 4 + 1)).toNat_lt; omega
                  have b2 : ((R (A - 4 + 2)).toNat : Int) < 256 := by have := (R (A - 4 + 2)).toNat_lt; omega
                  have b3 : ((R (A - 4 + 3)).toNat : Int) < 256 := by have := (R (A - 4 + 3)).toNat_lt; omega
                  clear hL1
                  go_wp2_with fail
                  refine still_tail 24 mixed (by kernel_rfl) ?_; simp only [List.take_succ_cons, List.take_zero, List.drop_succ_cons, List.drop_zero]; repeat still_step
                  refine wpStill_nil ?_
                  go_wp2
                  go_meet
                  have hn := hS.new (L' := fun j => if j = 0 then sbx (R (A - 4)).toNat else if j = 1 then sbx (R (A - 4 + 1)).toNat else if j = 2 then sbx (R (A - 4 + 2)).toNat else sbx (R (A - 4 + 3)).toNat) rfl
                  refine ⟨W.heap.size, rfl, hn.o, hn.r.congr (fun j hj => ?_), hn.lt, hn.b⟩
                  simp only [in8]
                  unfold sw
                  rw [if_neg H0.out, if_pos HY.out]
                  match j, hj with
                  | 0, _ => rfl
                  | 1, _ => simp
                  | 2, _ => simp
                  | 3, _ => simp
              case rest =>
                clear hS
                obtain ⟨gt', rfl, hS⟩ := hcut
                go_wp2_with fail
                go_loopw [7, 12] (fun v i wx => ∃ q g' cap' : Nat, q ≤ 4 ∧ i = .int .i64 q ∧ v = .slice (some ⟨g', 0, none⟩) (A + q) cap' ∧ g' ≠ gt' ∧ A + q ≤ cap' ∧
                  Own wx w.heap.size v (A + q) (fun j => if A ≤ j then R (j - s.size) ^^^ sw sbx s.size A C R (j - A) else R j) ∧ Row wx gt' 4 3 (in8 (sw sbx s.size A C R)) ∧ Below w.heap.size w wx) (fun _ i _ => 4 - (intOf i).toNat)
                case atStart =>
                  refine ⟨0, g, cap, by omega, rfl, rfl, Nat.ne_of_lt hS.lt, by omega, hS.o.congr (fun j hj => by rw [if_neg (by omega)]), hS.r, hS.b⟩
                case round =>
                  clear hS
                  obtain ⟨q, g', cap', hq, rfl, rfl, hne, hcap', ho, hr, hB⟩ := hrel
                  by_cases hql : q < 4
                  · obtain ⟨_, _, e, hg1, hg2, hg3, hg4⟩ := ho.got (by omega)
                    cases e
                    have c1 := hg4 (A - s.size + q) (by omega)
                    have c2 := hr.cell q hql
                    rw [if_neg (by omega)] at c1
                    simp only [in8] at c2
                    clear hg4
                    have HO : Hid _ := ho
                    clear ho
                    have wa : IntKind.i64.wrap ((A : Int) - (s.size : Int)) = (A : Int) - (s.size : Int) := by rw [IntKind.wrap_i64]; omega
                    have wb : IntKind.i64.wrap ((A : Int) - (s.size : Int) + (q : Int)) = (A : Int) - (s.size : Int) + (q : Int) := by rw [IntKind.wrap_i64]; omega
                    have wc : ((A : Int) - (s.size : Int) + (q : Int)).toNat = A - s.size + q := by omega
                    have wd : (0 : Int) ≤ (A : Int) - (s.size : Int) + (q : Int) := by omega
                    have we : (A : Int) - (s.size : Int) + (q : Int) < (A : Int) + (q : Int) := by omega
                    have wf : (q : Int) < 4 := by omega
                    have wx := i64_xor_b (R (A - s.size + q)) (sw sbx s.size A C R q)
                    rw [show (R (A - s.size + q) ^^^ sw sbx s.size A C R q).toNat = (R (A - s.size + q)).toNat ^^^ (sw sbx s.size A C R q).toNat from UInt8.toNat_xor _ _] at wx
                    have HW : Hid _ := hr
                    go_wp2_with fail
                    rw [← Own] at HO
                    go_region_law (refine step_ap (by rfl) (.tmp 129) (.tmp 143) (by rfl) w.heap.size (A + q) g' cap' (fun j => if A ≤ j then R (j - s.size) ^^^ sw sbx s.size A C R (j - A) else R j) (by rfl) (by exact HO) (R (A - s.size + q) ^^^ sw sbx s.size A C R q) (by rfl) (by omega) hB.size ?_; intro g2 cap2 w2 ho2 hb2 hk2 hg2' hlt2)
                    all_goals
                      have HO2 : Hid _ := ho2
                      have HK2 : Hid _ := hk2
                      have HG2 : Hid _ := hg2'
                      clear ho2 hk2 hg2' wa wb wc wd we wf wx c1 c2 hr hg1 hg2 hg3 HO
                      go_wp2_with fail
                      refine ⟨⟨q + 1, g2, cap2, by omega, by go_num, rfl, ?_, ?_, Own.congr HO2.out (fun j hj => ?_), ?_, hB.trans hb2⟩, by simp [intOf]; omega⟩
                      · have := (Row.lt HW.out)
                        have := HG2.out
                        omega
                      · obtain ⟨_, _, e2, _, _, h3, _⟩ := Own.got HO2.out (by omega)
                        cases e2
                        exact h3
                      · by_cases hjq : j = A + q
                        · subst hjq
                          rw [if_pos rfl, if_pos (by omega), show A + q - s.size = A - s.size + q by omega, show A + q - A = q by omega]
                        · rw [if_neg hjq]
                      · unfold Row
                        rw [HK2.out gt' (Row.lt HW.out) (fun h => hne h.symm)]
                        exact HW.out
                  · have hq4 : q = 4 := by omega
                    subst hq4
                    have HO : Hid _ := ho
                    clear ho
                    go_wp2
                    refine ⟨⟨t + 1, A + 4, g', cap', by have := HA.out; show A + 4 = _; omega, by omega, hA4, ?_, by go_num, rfl, Own.congr HO.out (fun j hj => ?_), hB⟩, by simp [intOf]; omega⟩
                    · have := HA.out
                      simp only [kxR]
                      rw [HCC.out, ← this, HC'.out]
                    · have := HA.out
                      simp only [kxR]
                      rw [HCC.out, HRR.out, ← this]
                      by_cases hj2 : A ≤ j
                      · rw [if_pos hj2, if_pos (by omega)]
                      · rw [if_neg hj2, if_neg (by omega)]
        · have hAe : A = 4 * s.size + 112 := by omega
          have hpp : Pre wr g (4 * s.size + 112) (ksF (sf s) s.size) := by
            refine ⟨hg2, fun j hj => ?_⟩
            rw [hg4 j (by omega)]
            have e1 := HA.out
            have e2 : (16 * (s.size / 4 + 7) - s.size) / 4 = t := by rcases HS.out with e3 | e3 | e3 <;> omega
            unfold ksF
            rw [e2]
          have hd : decide ((A : Int) < 16 * ((s.size : Int) / 4 + 6 + 1)) = false := by
            have : ¬ A < 16 * (s.size / 4 + 6 + 1) := by rcases HS.out with e3 | e3 | e3 <;> omega
            simp; omega
          have HAE : Hid _ := hAe
          clear hAe hg4 ho
          go_wp2
          go_ret
          exact ⟨g, cap, by rw [HAE.out]; rfl, by have := HAE.out; omega, hpp, hB⟩
end Go.Proofs.YtgalgjmhdbncbaaGreat
