import Derived.Test.YtgalgjmhdbncbaaGreatZt10
import Derived.Deep.AppendLies
import Derived.Deep.DeepCutAuto
import Derived.Deep.CutBlock
import Derived.Deep.RegionLaw
import Derived.StillTailTactics
import Derived.Test.YtgalgjmhdbncbaaGreatZt06
namespace Go.Proofs.YtgalgjmhdbncbaaGreat
open Go.RowKit
attribute [local go_sem ↓] Go.wp_at_zero Go.wp_at_succ

theorem still_tail {id : Nat} {Q : Exit → Act → World → Prop} {a : Act} {w : World} {l : List Oper} (n : Nat) (hm : Tryz.prog.follows .mixedOrders = true) (hB : Region.lexTailB .any l.toArray n = true)
    (h : wpStill Tryz.prog l.toArray w.drew (fun a' => wpList Tryz.prog l.toArray Q (l.drop n) a' w.drew) (l.take n) a) : (Code.region id l.toArray true).wp Tryz.prog Q a w := wp_region_still_tail n hm hB h
theorem mixed : Tryz.prog.follows .mixedOrders = true := by kernel_rfl
theorem step_ap {ops : Array Oper} {o : Oper} {a : Act} {W : World} {K : Act → World → Prop} {Q : Exit → Act → World → Prop} {E : Prop} (hgd : o.guard = none) (s x : Operand)
    (ho : o.op = .call { callee := .builtin .append, args := #[s, x], argTypes := #[213, 213] }) (base n g cap : Nat) (f : Nat → UInt8) (hs : a.eval s = .slice (some ⟨g, 0, none⟩) n cap) (hown : Own W base (.slice (some ⟨g, 0, none⟩) n cap) n f) (y : UInt8)
    (hx : a.eval x = .slice (some ⟨W.heap.size, 0, none⟩) 1 1) (hn : n ≤ 1000000) (hbase : base ≤ W.heap.size)
    (h : ∀ g' cap' w', Own w' base (.slice (some ⟨g', 0, none⟩) (n + 1) cap') (n + 1) (fun j => if j = n then y else f j) → Below base W w' → (∀ k, k < W.heap.size → k ≠ g → w'.heap[k]? = W.heap[k]?) → (g' = g ∨ W.heap.size < g') → g' < w'.heap.size →
      K (a.put o.dst (.slice (some ⟨g', 0, none⟩) (n + 1) cap')) w') :
    if Region.wanted o (yielded ops a.tmps) = true then Oper.wp Tryz.prog o a (W.alloc (.cells #[.int .i64 (y.toNat : Int)] 3)).drew K Q else E := by
  obtain ⟨i0, hi, hz0, hz1, hz2⟩ := info_parts info3
  have ho1 : Own (W.alloc (.cells #[.int .i64 (y.toNat : Int)] 3)).drew base (.slice (some ⟨g, 0, none⟩) n cap) n f := hown.alloc _
  refine step_append_lies _ hgd s x 213 ho base 3 i0 (.int .i64 0) 1 8 Tryz.underlying213 hi hz0 hz1 hz2 rfl (by decide) _ n (cl n (in8 f)) hs ho1 ⟨W.heap.size, 0, none⟩ 1 1 [.int .i64 (y.toNat : Int)] hx rfl (cell_one_new _ _ _)
    (fun u hu => by simp at hu; subst hu; rfl) (by omega) (by unfold maxLen; omega) (by omega) (by show base ≤ (W.alloc (.cells #[.int .i64 (y.toNat : Int)] 3)).heap.size; simp; omega) (W.heap.size + 1) (by show (W.alloc (.cells #[.int .i64 (y.toNat : Int)] 3)).heap.size = _; simp) ?_
  intro g' cap' w' h1 h2 h3 h4
  rw [cl_snoc] at h1
  have hbk : ∀ k, k < W.heap.size → k ≠ g → w'.heap[k]? = W.heap[k]? := by
    intro k hk hkg
    rw [h2.block k (by show k < (W.alloc (.cells #[.int .i64 (y.toNat : Int)] 3)).heap.size; simp; omega) (by simp [Value.ownBlock, hkg])]
    exact Below.heap_alloc W _ k hk
  refine h g' cap' w' h1 (((Below.refl base W).alloc hbase _).drew.trans (below_grown h2 (by show base ≤ (W.alloc (.cells #[.int .i64 (y.toNat : Int)] 3)).heap.size; simp; omega) hown.block)) hbk ?_ h4
  rcases h3 with h3 | h3
  · left
    simp [Value.ownBlock] at h3
    omega
  · right; omega

theorem quad3 (a b c d : UInt8) : (#[.int .i64 a.toNat, .int .i64 b.toNat, .int .i64 c.toNat, .int .i64 d.toNat] : Array Value) = arr 4 (in8 (fun j => if j = 0 then a else if j = 1 then b else if j = 2 then c else d)) := rfl
structure S37 (w0 w : World) (g A cap gt : Nat) (R L : Nat → UInt8) : Prop where
  o : Own w w0.heap.size (.slice (some ⟨g, 0, none⟩) A cap) A R
  r : Row w gt 4 3 (in8 L)
  lt : g < gt
  b : Below w0.heap.size w0 w
theorem S37.pre {w0 w : World} {g A cap gt gs : Nat} {R L : Nat → UInt8} (h : S37 w0 w g A cap gt R L) (hp : Pre w0 gs 256 sbx) : Pre w gs 256 sbx := hp.keep h.b hp.1
theorem S37.new {w0 w : World} {g A cap gt : Nat} {R L L' : Nat → UInt8} {cs : Array Value} (h : S37 w0 w g A cap gt R L) (hc : cs = arr 4 (in8 L')) : S37 w0 (w.alloc (.cells cs 3)).drew g A cap w.heap.size R L' := by
  subst hc
  exact ⟨h.o.alloc _, (Row.new _ _ _ _ _ rfl).drew, Nat.lt_trans h.lt h.r.lt, (h.b.alloc h.b.size _).drew⟩
theorem sf_idx (s : ByteArray) (k : Nat) (h : k < s.size) : s[k] = sf s k := by
  have h' : k < s.data.size := h
  show s.data[k] = s.data.getD k 0
  simp [Array.getElem?_eq_getElem h']

set_option maxRecDepth 100000 in
set_option maxHeartbeats 4000000 in
theorem expand_ref (s : ByteArray) (hs : s.size = 16 ∨ s.size = 24 ∨ s.size = 32) (gs capS : Nat) (w : World) (hp : Pre w gs 256 sbx) (_hcs : 256 ≤ capS) :
    Calls Tryz.prog 143 #[.string s, .slice (some ⟨gs, 0, none⟩) 256 capS] w fun e w' => ∃ g cap, e = .returned (.slice (some ⟨g, 0, none⟩) (4 * s.size + 112) cap) ∧ 4 * s.size + 112 ≤ cap ∧ Pre w' g (4 * s.size + 112) (ksF (sf s) s.size) ∧ Below w.heap.size w w' := by
  have hle : s.size ≤ 32 := by omega
  have hge : 16 ≤ s.size := by omega
  have HS : Hid _ := hs
  clear hs
  have hgs := hp.1
  go_enter Tryz.func143, Tryz.ntmps143
  go_wp2
  go_loopw [7, 8] (fun v i wr => ∃ k : Nat, k ≤ s.size ∧ i = .int .i64 k ∧ Own wr w.heap.size v k (sf s) ∧ Below w.heap.size w wr) (fun _ i _ => s.size - (intOf i).toNat)
  case atStart => exact ⟨0, by omega, rfl, Own.nil _ _ _, Below.refl _ _⟩
  case round =>
    obtain ⟨k, hk, rfl, ho, hB⟩ := hrel
    by_cases hlt : k < s.size
    · have hix := sf_idx s k hlt
      have hbb : ((sf s k).toNat : Int) < 256 := by have := (sf s k).toNat_lt; omega
      go_wp2_with (at_builtin; refine ap1 rfl _ _ rfl w.heap.size k _ (sf s) rfl ho (sf s k) rfl (by omega) hB.size ?_; intro v' w' ho' hb')
      go_roundw
      case rel => exact ⟨k + 1, by omega, by go_num, ho'.congr (fun j hj => by split <;> simp_all), hB.trans hb'⟩
      case measure => simp [intOf]; omega
    · have hks : k = s.size := by omega
      subst hks
      have ho0 : Own wr w.heap.size u7 s.size (kxR sbx (sf s) s.size 0).1 := ho.congr (fun j hj => by simp only [kxR]; rw [if_pos hj])
      clear ho
      go_wp2
      go_loopw [7, 9, 10] (fun v c a wx => ∃ t A g cap : Nat, Hid (A = s.size + 4 * t) ∧ s.size ≤ A ∧ A ≤ 4 * s.size + 112 ∧ c = .int .i64 (kxR sbx (sf s) s.size t).2.toNat ∧ a = .int .i64 A ∧ v = .slice (some ⟨g, 0, none⟩) A cap ∧
         Own wx w.heap.size v A (kxR sbx (sf s) s.size t).1 ∧ Below w.heap.size w wx) (fun _ _ a _ => 300 - (intOf a).toNat)
      case atStart =>
        obtain ⟨g, cap, rfl, _⟩ := ho0.got (by omega)
        exact ⟨0, s.size, g, cap, rfl, Nat.le_refl _, by omega, rfl, rfl, rfl, ho0, hB⟩
      case round =>
        clear ho0 hB
        obtain ⟨t, A, g, cap, HA, hA1, hA2, rfl, rfl, rfl, ho, hB⟩ := hrel
        obtain ⟨_, _, e, hg1, hg2, hg3, hg4⟩ := ho.got (by omega)
        cases e
        have hcap : (A : Int) ≤ (cap : Int) := by omega
        by_cases hlt : A < 4 * s.size + 112
        · have hA4 : A + 4 ≤ 4 * s.size + 112 := by
            have e1 := HA.out
            rcases HS.out with e3 | e3 | e3 <;> omega
          have c0 := hg4 (A - 4) (by omega)
          have c1 := hg4 (A - 3) (by omega)
          have c2 := hg4 (A - 2) (by omega)
          have c3 := hg4 (A - 1) (by omega)
          generalize hR : (kxR sbx (sf s) s.size t).1 = R at *
          generalize hC : (kxR sbx (sf s) s.size t).2 = C at *
          have HRR : Hid _ := hR
          have HCC : Hid _ := hC
          clear hR hC hg4
          have HO : Hid _ := ho
          clear ho
          have hd : decide ((A : Int) < 16 * ((s.size : Int) / 4 + 6 + 1)) = true := by
            have : A < 16 * (s.size / 4 + 6 + 1) := by rcases HS.out with e3 | e3 | e3 <;> omega
            simp; omega
          have w4 : IntKind.i64.wrap ((A : Int) - 4) = (A : Int) - 4 := by rw [IntKind.wrap_i64]; omega
          have w3 : IntKind.i64.wrap ((A : Int) - 3) = (A : Int) - 3 := by rw [IntKind.wrap_i64]; omega
          have w2 : IntKind.i64.wrap ((A : Int) - 2) = (A : Int) - 2 := by rw [IntKind.wrap_i64]; omega
          have w1 : IntKind.i64.wrap ((A : Int) - 1) = (A : Int) - 1 := by rw [IntKind.wrap_i64]; omega
          have i4 : (0 ≤ (A : Int) - 4 ∧ (A : Int) - 4 < (A : Int)) = True := eq_true (by omega)
          have i3 : (0 ≤ (A : Int) - 3 ∧ (A : Int) - 3 < (A : Int)) = True := eq_true (by omega)
          have i2 : (0 ≤ (A : Int) - 2 ∧ (A : Int) - 2 < (A : Int)) = True := eq_true (by omega)
          have i1 : (0 ≤ (A : Int) - 1 ∧ (A : Int) - 1 < (A : Int)) = True := eq_true (by omega)
          have j4 : (4 : Int) ≤ (A : Int) := by omega
          have j3 : (3 : Int) ≤ (A : Int) := by omega
          have j2 : (2 : Int) ≤ (A : Int) := by omega
          have j1 : (1 : Int) ≤ (A : Int) := by omega
          have k4 : ((A : Int) - 4).toNat = A - 4 := by omega
          have k3 : ((A : Int) - 3).toNat = A - 3 := by omega
          have k2 : ((A : Int) - 2).toNat = A - 2 := by omega
          have k1 : ((A : Int) - 1).toNat = A - 1 := by omega
          have l4 : (A : Int) - 4 < (A : Int) := by omega
          have l3 : (A : Int) - 3 < (A : Int) := by omega
          have l2 : (A : Int) - 2 < (A : Int) := by omega
          have l1 : (A : Int) - 1 < (A : Int) := by omega
          go_wp2_with fail
          refine still_tail 20 mixed (by kernel_rfl) ?_; simp only [List.take_succ_cons, List.take_zero, List.drop_succ_cons, List.drop_zero]; repeat still_step
          refine wpStill_nil ?_
          go_upto_if 62 with fail
          have hS : S37 w (wr.alloc (.cells #[.int .i64 (R (A - 4)).toNat, .int .i64 (R (A - 3)).toNat, .int .i64 (R (A - 2)).toNat, .int .i64 (R (A - 1)).toNat] 3)).drew g A cap wr.heap.size R (fun j => R (A - 4 + j)) := by
            refine ⟨HO.out.alloc _, ?_, hg2, (hB.alloc hB.size _).drew⟩
            have hrow := Row.new wr 4 3 (in8 (fun j => if j = 0 then R (A - 4) else if j = 1 then R (A - 3) else if j = 2 then R (A - 2) else R (A - 1))) wr.heap.size rfl
            refine Row.congr hrow.drew ?_
            intro j hj
            match j, hj with
            | 0, _ => rfl
            | 1, _ => simp only [in8]; rw [show A - 4 + 1 = A - 3 by omega]; rfl
            | 2, _ => simp only [in8]; rw [show A - 4 + 2 = A - 2 by omega]; rfl
            | 3, _ => simp only [in8]; rw [show A - 4 + 3 = A - 1 by omega]; rfl
          suffices HH : ∀ W, S37 w W g A cap wr.heap.size R (fun j => R (A - 4 + j)) → Code.wp Tryz.prog _ _ _ W from HH _ (by exact hS)
          intro W hS2
          clear hS c0 c1 c2 c3 HO hB w4 w3 w2 w1 i4 i3 i2 i1 j4 j3 j2 j1 k4 k3 k2 k1 l4 l3 l2 l1
          go_cut [9, 11] (fun c tv wx => ∃ gt, c = .int .i64 (if A % s.size = 0 then dbl C else C).toNat ∧ tv = .slice (some ⟨gt, 0, none⟩) 4 4 ∧
            S37 w wx g A cap gt R (fun j => if A % s.size = 0 then sw sbx s.size A C R j else R (A - 4 + j)))
          case first =>
            have c0 := hS2.r.cell 0 (by omega)
            have c1 := hS2.r.cell 1 (by omega)
            have c2 := hS2.r.cell 2 (by omega)
            have c3 := hS2.r.cell 3 (by omega)
            simp only [in8, Nat.add_zero] at c0 c1 c2 c3
            have pt := hS2.pre hp
            have d0 := pt.2 (R (A - 4)).toNat (R (A - 4)).toNat_lt
            have d1 := pt.2 (R (A - 4 + 1)).toNat (R (A - 4 + 1)).toNat_lt
            have d2 := pt.2 (R (A - 4 + 2)).toNat (R (A - 4 + 2)).toNat_lt
            have d3 := pt.2 (R (A - 4 + 3)).toNat (R (A - 4 + 3)).toNat_lt
            have b0 : ((R (A - 4)).toNat : Int) < 256 := by have := (R (A - 4)).toNat_lt; omega
            have b1 : ((R (A - 4 + 1)).toNat : Int) < 256 := by have := (R (A - 4 + 1)).toNat_lt; omega
            have b2 : ((R (A - 4 + 2)).toNat : Int) < 256 := by have := (R (A - 4 + 2)).toNat_lt; omega
            have b3 : ((R (A - 4 + 3)).toNat : Int) < 256 := by have := (R (A - 4 + 3)).toNat_lt; omega
            by_cases h0 : A % s.size = 0
            · have hb : (((A : Int) % (s.size : Int)) == 0) = true := beq_iff_eq.2 (by omega)
              have H0 : Hid _ := h0
              clear h0
              go_wp2_with fail
              refine still_tail 26 mixed (by kernel_rfl) ?_; simp only [List.take_succ_cons, List.take_zero, List.drop_succ_cons, List.drop_zero]; repeat still_step
              refine wpStill_nil ?_
              go_wp2_with (go_at_call 144; refine (times_x2 _ _).mono ?_; rintro e w5 ⟨rfl, hw5⟩; subst hw5)
              go_meet
              refine ⟨W.heap.size, by rw [if_pos H0.out], rfl, ?_⟩
              rw [i64_xor_b]
              have hn := hS2.new (L' := fun j => if j = 0 then sbx (R (A - 4 + 1)).toNat ^^^ C else if j = 1 then sbx (R (A - 4 + 2)).toNat else if j = 2 then sbx (R (A - 4 + 3)).toNat else sbx (R (A - 4)).toNat) rfl
              refine ⟨hn.o, hn.r.congr (fun j hj => ?_), hn.lt, hn.b⟩
              simp only [in8]
              rw [if_pos H0.out]
              unfold sw
              rw [if_pos H0.out]
              match j, hj with
              | 0, _ => rfl
              | 1, _ => simp
              | 2, _ => simp
              | 3, _ => simp
            · have hb : (((A : Int) % (s.size : Int)) == 0) = false := beq_eq_false_iff_ne.2 (by omega)
              have H0 : Hid _ := h0
              clear h0
              go_wp2
              go_meet
              exact ⟨_, by rw [if_neg H0.out], rfl, hS2.o, hS2.r.congr (fun j hj => by simp only [in8]; rw [if_neg H0.out]), hS2.lt, hS2.b⟩
          case rest =>
            clear hS2
            obtain ⟨gt, rfl, rfl, hS⟩ := hcut
            generalize hC' : (if A % s.size = 0 then dbl C else C) = C' at *
            have HC' : Hid _ := hC'
            clear hC'
            generalize hL : (fun j => if A % s.size = 0 then sw sbx s.size A C R j else R (A - 4 + j)) = L1 at *
            have HL : Hid _ := hL
            clear hL
            go_upto_region 16 with fail
            suffices HH : ∀ W, S37 w W g A cap gt R L1 → Code.wp Tryz.prog _ _ _ W from HH _ hS
            intro W hS
            go_cut [99] (fun b wx => b = .bool (decide (s.size = 32 ∧ A % s.size = 16)) ∧ S37 w wx g A cap gt R L1)
            case first =>
              by_cases h32 : s.size = 32
              · have hb1 : ((s.size : Int) == 32) = true := beq_iff_eq.2 (by omega)
                by_cases h16 : A % s.size = 16
                · have hb2 : (((A : Int) % (s.size : Int)) == 16) = true := beq_iff_eq.2 (by omega)
                  have HD : Hid (decide (s.size = 32 ∧ A % s.size = 16) = true) := decide_eq_true ⟨h32, h16⟩
                  clear h32 h16
                  go_wp2
                  go_meet
                  exact ⟨by rw [HD.out], hS⟩
                · have hb2 : (((A : Int) % (s.size : Int)) == 16) = false := beq_eq_false_iff_ne.2 (by omega)
                  have HD : Hid (decide (s.size = 32 ∧ A % s.size = 16) = false) := decide_eq_false (fun h => h16 h.2)
                  clear h32 h16
                  go_wp2
                  go_meet
                  exact ⟨by rw [HD.out], hS⟩
              · have hb1 : ((s.size : Int) == 32) = false := beq_eq_false_iff_ne.2 (by omega)
                have HD : Hid (decide (s.size = 32 ∧ A % s.size = 16) = false) := decide_eq_false (fun h => h32 h.1)
                clear h32
                go_wp2
                go_meet
                exact ⟨by rw [HD.out], hS⟩
            case rest =>
              clear hS
              obtain ⟨rfl, hS⟩ := hcut
              generalize hD : decide (s.size = 32 ∧ A % s.size = 16) = D at *
              have HD : Hid _ := hD
              clear hD
              go_upto_if 99 with fail
              suffices HH : ∀ W, S37 w W g A cap gt R L1 → Code.wp Tryz.prog _ _ _ W from HH _ hS
              intro W hS
              go_cut [11] (fun tv wx => ∃ gt, tv = .slice (some ⟨gt, 0, none⟩) 4 4 ∧ S37 w wx g A cap gt R (sw sbx s.size A C R))
              case first =>
                cases D
                · go_wp2
                  go_meet
                  refine ⟨gt, rfl, hS.o, hS.r.congr (fun j hj => ?_), hS.lt, hS.b⟩
                  simp only [in8]
                  rw [← HL.out]
                  unfold sw
                  have hno := of_decide_eq_false HD.out
                  by_cases h0 : A % s.size = 0
                  · simp only [if_pos h0]
                  · simp only [if_neg h0]
                    rw [if_neg hno]
                · have hyes := of_decide_eq_true HD.out
                  have h0 : ¬ A % s.size = 0 := by omega
                  have hL1 : ∀ j, L1 j = R (A - 4 + j) := fun j => by rw [← HL.out]; simp only [if_neg h0]
                  have HY : Hid _ := hyes
                  have H0 : Hid _ := h0
                  clear hyes h0
                  have c0 := hS.r.cell 0 (by omega)
                  have c1 := hS.r.cell 1 (by omega)
                  have c2 := hS.r.cell 2 (by omega)
                  have c3 := hS.r.cell 3 (by omega)
                  simp only [in8, hL1, Nat.add_zero] at c0 c1 c2 c3
                  have pt := hS.pre hp
                  have d0 := pt.2 (R (A - 4)).toNat (R (A - 4)).toNat_lt
                  have d1 := pt.2 (R (A - 4 + 1)).toNat (R (A - 4 + 1)).toNat_lt
                  have d2 := pt.2 (R (A - 4 + 2)).toNat (R (A - 4 + 2)).toNat_lt
                  have d3 := pt.2 (R (A - 4 + 3)).toNat (R (A - 4 + 3)).toNat_lt
                  have b0 : ((R (A - 4)).toNat : Int) < 256 := by have := (R (A - 4)).toNat_lt; omega
                  have b1 : ((R (A - 4 + 1)).toNat : Int) < 256 := by have := (R (A - 4 + 1)).toNat_lt; omega
                  have b2 : ((R (A - 4 + 2)).toNat : Int) < 256 := by have := (R (A - 4 + 2)).toNat_lt; omega
                  have b3 : ((R (A - 4 + 3)).toNat : Int) < 256 := by have := (R (A - 4 + 3)).toNat_lt; omega
                  clear hL1
                  go_wp2_with fail
                  refine still_tail 24 mixed (by kernel_rfl) ?_; simp only [List.take_succ_cons, List.take_zero, List.drop_succ_cons, List.drop_zero]; repeat still_step
                  refine wpStill_nil ?_
                  go_wp2
                  go_meet
                  have hn := hS.new (L' := fun j => if j = 0 then sbx (R (A - 4)).toNat else if j = 1 then sbx (R (A - 4 + 1)).toNat else if j = 2 then sbx (R (A - 4 + 2)).toNat else sbx (R (A - 4 + 3)).toNat) rfl
                  refine ⟨W.heap.size, rfl, hn.o, hn.r.congr (fun j hj => ?_), hn.lt, hn.b⟩
                  simp only [in8]
                  unfold sw
                  rw [if_neg H0.out, if_pos HY.out]
                  match j, hj with
                  | 0, _ => rfl
                  | 1, _ => simp
                  | 2, _ => simp
                  | 3, _ => simp
              case rest =>
                clear hS
                obtain ⟨gt', rfl, hS⟩ := hcut
                go_wp2_with fail
                go_loopw [7, 12] (fun v i wx => ∃ q g' cap' : Nat, q ≤ 4 ∧ i = .int .i64 q ∧ v = .slice (some ⟨g', 0, none⟩) (A + q) cap' ∧ g' ≠ gt' ∧ A + q ≤ cap' ∧
                  Own wx w.heap.size v (A + q) (fun j => if A ≤ j then R (j - s.size) ^^^ sw sbx s.size A C R (j - A) else R j) ∧ Row wx gt' 4 3 (in8 (sw sbx s.size A C R)) ∧ Below w.heap.size w wx) (fun _ i _ => 4 - (intOf i).toNat)
                case atStart =>
                  refine ⟨0, g, cap, by omega, rfl, rfl, Nat.ne_of_lt hS.lt, by omega, hS.o.congr (fun j hj => by rw [if_neg (by omega)]), hS.r, hS.b⟩
                case round =>
                  clear hS
                  obtain ⟨q, g', cap', hq, rfl, rfl, hne, hcap', ho, hr, hB⟩ := hrel
                  by_cases hql : q < 4
                  · obtain ⟨_, _, e, hg1, hg2, hg3, hg4⟩ := ho.got (by omega)
                    cases e
                    have c1 := hg4 (A - s.size + q) (by omega)
                    have c2 := hr.cell q hql
                    rw [if_neg (by omega)] at c1
                    simp only [in8] at c2
                    clear hg4
                    have HO : Hid _ := ho
                    clear ho
                    have wa : IntKind.i64.wrap ((A : Int) - (s.size : Int)) = (A : Int) - (s.size : Int) := by rw [IntKind.wrap_i64]; omega
                    have wb : IntKind.i64.wrap ((A : Int) - (s.size : Int) + (q : Int)) = (A : Int) - (s.size : Int) + (q : Int) := by rw [IntKind.wrap_i64]; omega
                    have wc : ((A : Int) - (s.size : Int) + (q : Int)).toNat = A - s.size + q := by omega
                    have wd : (0 : Int) ≤ (A : Int) - (s.size : Int) + (q : Int) := by omega
                    have we : (A : Int) - (s.size : Int) + (q : Int) < (A : Int) + (q : Int) := by omega
                    have wf : (q : Int) < 4 := by omega
                    have wx := i64_xor_b (R (A - s.size + q)) (sw sbx s.size A C R q)
                    rw [show (R (A - s.size + q) ^^^ sw sbx s.size A C R q).toNat = (R (A - s.size + q)).toNat ^^^ (sw sbx s.size A C R q).toNat from UInt8.toNat_xor _ _] at wx
                    have HW : Hid _ := hr
                    go_wp2_with fail
                    rw [← Own] at HO
                    go_region_law (refine step_ap (by rfl) (.tmp 129) (.tmp 143) (by rfl) w.heap.size (A + q) g' cap' (fun j => if A ≤ j then R (j - s.size) ^^^ sw sbx s.size A C R (j - A) else R j) (by rfl) (by exact HO) (R (A - s.size + q) ^^^ sw sbx s.size A C R q) (by rfl) (by omega) hB.size ?_; intro g2 cap2 w2 ho2 hb2 hk2 hg2' hlt2)
                    all_goals
                      have HO2 : Hid _ := ho2
                      have HK2 : Hid _ := hk2
                      have HG2 : Hid _ := hg2'
                      clear ho2 hk2 hg2' wa wb wc wd we wf wx c1 c2 hr hg1 hg2 hg3 HO
                      go_wp2_with fail
                      refine ⟨⟨q + 1, g2, cap2, by omega, by go_num, rfl, ?_, ?_, Own.congr HO2.out (fun j hj => ?_), ?_, hB.trans hb2⟩, by simp [intOf]; omega⟩
                      · have := (Row.lt HW.out)
                        have := HG2.out
                        omega
                      · obtain ⟨_, _, e2, _, _, h3, _⟩ := Own.got HO2.out (by omega)
                        cases e2
                        exact h3
                      · by_cases hjq : j = A + q
                        · subst hjq
                          rw [if_pos rfl, if_pos (by omega), show A + q - s.size = A - s.size + q by omega, show A + q - A = q by omega]
                        · rw [if_neg hjq]
                      · unfold Row
                        rw [HK2.out gt' (Row.lt HW.out) (fun h => hne h.symm)]
                        exact HW.out
                  · have hq4 : q = 4 := by omega
                    subst hq4
                    have HO : Hid _ := ho
                    clear ho
                    go_wp2
                    refine ⟨⟨t + 1, A + 4, g', cap', by have := HA.out; show A + 4 = _; omega, by omega, hA4, ?_, by go_num, rfl, Own.congr HO.out (fun j hj => ?_), hB⟩, by simp [intOf]; omega⟩
                    · have := HA.out
                      simp only [kxR]
                      rw [HCC.out, ← this, HC'.out]
                    · have := HA.out
                      simp only [kxR]
                      rw [HCC.out, HRR.out, ← this]
                      by_cases hj2 : A ≤ j
                      · rw [if_pos hj2, if_pos (by omega)]
                      · rw [if_neg hj2, if_neg (by omega)]
        · have hAe : A = 4 * s.size + 112 := by omega
          have hpp : Pre wr g (4 * s.size + 112) (ksF (sf s) s.size) := by
            refine ⟨hg2, fun j hj => ?_⟩
            rw [hg4 j (by omega)]
            have e1 := HA.out
            have e2 : (16 * (s.size / 4 + 7) - s.size) / 4 = t := by rcases HS.out with e3 | e3 | e3 <;> omega
            unfold ksF
            rw [e2]
          have hd : decide ((A : Int) < 16 * ((s.size : Int) / 4 + 6 + 1)) = false := by
            have : ¬ A < 16 * (s.size / 4 + 6 + 1) := by rcases HS.out with e3 | e3 | e3 <;> omega
            simp; omega
          have HAE : Hid _ := hAe
          clear hAe hg4 ho
          go_wp2
          go_ret
          exact ⟨g, cap, by rw [HAE.out]; rfl, by have := HAE.out; omega, hpp, hB⟩
end Go.Proofs.YtgalgjmhdbncbaaGreat
namespace Go.Proofs.YtgalgjmhdbncbaaGreat
open Go.RowKit
attribute [local go_sem ↓] Go.wp_at_zero Go.wp_at_succ
attribute [local go_sem ↓] cv_wrap
attribute [local go_sem] run_cv cvRes_row cvRes_z blk_new blk_at blk_old blk_drew

theorem mx_ref (n : Nat → UInt8) (c q : Nat) (hq : q < 4) : dbl (n (4 * c + q)) ^^^ (n (4 * c + (q + 1) % 4) ^^^ dbl (n (4 * c + (q + 1) % 4))) ^^^ n (4 * c + (q + 2) % 4) ^^^ n (4 * c + (q + 3) % 4) = mx n (4 * c + q) := by
  rw [mx_at n c q hq, dbl_xor]
  match q, hq with
  | 0, _ =>
    simp only [Nat.add_zero, Nat.zero_add, show 1 % 4 = 1 from rfl, show 2 % 4 = 2 from rfl, show 3 % 4 = 3 from rfl]
    generalize dbl (n (4 * c)) = a
    generalize dbl (n (4 * c + 1)) = b
    simp only [UInt8.xor_assoc, UInt8.xor_comm, x_lc, x_can]
  | 1, _ =>
    simp only [show (1 + 1) % 4 = 2 from rfl, show (1 + 2) % 4 = 3 from rfl, show (1 + 3) % 4 = 0 from rfl, Nat.add_zero]
    generalize dbl (n (4 * c + 1)) = a
    generalize dbl (n (4 * c + 2)) = b
    simp only [UInt8.xor_assoc, UInt8.xor_comm, x_lc, x_can]
  | 2, _ =>
    simp only [show (2 + 1) % 4 = 3 from rfl, show (2 + 2) % 4 = 0 from rfl, show (2 + 3) % 4 = 1 from rfl, Nat.add_zero]
    generalize dbl (n (4 * c + 2)) = a
    generalize dbl (n (4 * c + 3)) = b
    simp only [UInt8.xor_assoc, UInt8.xor_comm, x_lc, x_can]
  | 3, _ =>
    simp only [show (3 + 1) % 4 = 0 from rfl, show (3 + 2) % 4 = 1 from rfl, show (3 + 3) % 4 = 2 from rfl, Nat.add_zero]
    generalize dbl (n (4 * c + 3)) = a
    generalize dbl (n (4 * c)) = b
    simp only [UInt8.xor_assoc, UInt8.xor_comm, x_lc, UInt8.xor_self, UInt8.xor_zero]

structure S25 (w0 w : World) (gs gk L ms : Nat) (ks y : Nat → UInt8) : Prop where
  s : Pre w gs 256 sbx
  k : Pre w gk L ks
  r : Row w ms 16 3 (in8 y)
  ls : gs < ms
  lk : gk < ms
  b : Below w0.heap.size w0 w
theorem S25.set {w0 w : World} {gs gk L ms : Nat} {ks y z : Nat → UInt8} (h : S25 w0 w gs gk L ms ks y) (hm : w0.heap.size ≤ ms) (o : Nat) (v : UInt8) (hz : ∀ i, i < 16 → z i = if i = o then v else y i) :
    S25 w0 (w.setCell ⟨ms, o, none⟩ (.int .i64 (v.toNat : Int))) gs gk L ms ks z :=
  ⟨h.s.other (by have := h.ls; omega), h.k.other (by have := h.lk; omega), (h.r.set o _).congr (fun j hj => by
    simp only [in8]
    rw [hz j hj]
    split <;> rfl), h.ls, h.lk, h.b.setCell (by simpa using hm) _⟩
theorem S25.far {w0 w : World} {gs gk L ms m o : Nat} {v : Value} {ks y : Nat → UInt8} (h : S25 w0 w gs gk L ms ks y) (hm : ms < m) (hw : w0.heap.size ≤ ms) : S25 w0 (w.setCell ⟨m, o, none⟩ v) gs gk L ms ks y :=
  ⟨h.s.other (by have := h.ls; omega), h.k.other (by have := h.lk; omega), h.r.other (by omega), h.ls, h.lk, h.b.setCell (by simp; omega) _⟩
theorem S25.drew {w0 w : World} {gs gk L ms : Nat} {ks y : Nat → UInt8} (h : S25 w0 w gs gk L ms ks y) : S25 w0 w.drew gs gk L ms ks y := ⟨h.s, h.k, h.r, h.ls, h.lk, h.b.drew⟩
theorem S25.drewN {w0 w : World} {gs gk L ms : Nat} {ks y : Nat → UInt8} (h : S25 w0 w gs gk L ms ks y) (q : Nat) : S25 w0 (w.drewN q) gs gk L ms ks y := ⟨h.s, h.k, h.r, h.ls, h.lk, below_drewN h.b q⟩
theorem S25.alloc {w0 w : World} {gs gk L ms : Nat} {ks y : Nat → UInt8} (h : S25 w0 w gs gk L ms ks y) (o : Obj) : S25 w0 (w.alloc o) gs gk L ms ks y := ⟨h.s.alloc o, h.k.alloc o, h.r.alloc o, h.ls, h.lk, h.b.alloc h.b.size o⟩
theorem S25.congr {w0 w : World} {gs gk L ms : Nat} {ks y z : Nat → UInt8} (h : S25 w0 w gs gk L ms ks y) (hz : ∀ i, i < 16 → y i = z i) : S25 w0 w gs gk L ms ks z :=
  ⟨h.s, h.k, h.r.congr (fun j hj => by simp only [in8]; rw [hz j hj]), h.ls, h.lk, h.b⟩
def stR (ks f : Nat → UInt8) (R k : Nat) : Nat → UInt8 := if k ≤ R then stF ks f (k - 1) else encF ks f R

set_option maxRecDepth 100000 in
set_option maxHeartbeats 4000000 in
theorem E_ref (key text : ByteArray) (hk : key.size = 16 ∨ key.size = 24 ∨ key.size = 32) (ht : text.size = 16) (w : World) :
    Calls Tryz.prog 123 #[.string key, .string text] w fun e w' => e = .returned (.string (str 16 (aesF (sf key) (sf text) key.size))) ∧ Below w.heap.size w w' := by
  have hm16 : ∀ w, (Instr.makeSlice 213 (.int .i64 16) (.int .i64 16)).run Tryz.prog w = .ok (.slice (some ⟨w.heap.size, 0, none⟩) 16 16) (w.alloc (.cells (arr 16 (in8 fun _ => 0)) 3)) := fun w => mk3 16 (by omega) w
  have hb16 : ∀ w, (Instr.makeSlice 105 (.int .i64 16) (.int .i64 16)).run Tryz.prog w = .ok (.slice (some ⟨w.heap.size, 0, none⟩) 16 16) (w.alloc (.cells (arr 16 z8) 5)) := fun w => mk8 16 (by omega) w
  have HK : Hid _ := hk
  have HT : Hid _ := ht
  have htz : 16 ≤ text.size := by omega
  have htz2 : text.size ≤ 16 := by omega
  obtain ⟨R, hR⟩ : ∃ R, R = key.size / 4 + 6 := ⟨_, rfl⟩
  obtain ⟨L, hL⟩ : ∃ L, L = 4 * key.size + 112 := ⟨_, rfl⟩
  have hRL : L = 16 * R + 16 := by omega
  have hR2 : 2 ≤ R := by omega
  have hR14 : R ≤ 14 := by omega
  have HR : Hid _ := hR
  have HL : Hid _ := hL
  have hrd : ((L : Int) / 16 - 1) = (R : Int) := by omega
  have hLL : (L : Int) ≤ 240 := by omega
  have HRL : Hid _ := hRL
  have hLR : (16 : Int) * (R : Int) + 16 ≤ (L : Int) := by omega
  clear hk ht hR hL hRL
  go_enter Tryz.func123, Tryz.ntmps123
  go_wp2_with fail
  refine (boxes_ref _).mono ?_
  rintro e w1 ⟨gs, capS, rfl, hcs, hgs, ps, b1⟩
  go_wp2_with fail
  refine (expand_ref key HK.out gs capS _ ps hcs).mono ?_
  rintro e w2 ⟨gk, capK, rfl, hck, pk, b2⟩
  rw [← HL.out] at pk hck ⊢
  have ps2 := ps.keep b2 ps.1
  have b12 := b1.trans (b2.mono b1.size)
  have hw2 := b12.size
  have hcs' : (256 : Int) ≤ (capS : Int) := by omega
  have hck' : (L : Int) ≤ (capK : Int) := by omega
  clear ps b1 b2
  go_wp2_with fail
  go_loopw [9] (fun i wr => ∃ k : Nat, k ≤ 16 ∧ i = .int .i64 k ∧ S25 w wr gs gk L w2.heap.size (ksF (sf key) key.size) (fun j => if j < k then sf text j ^^^ ksF (sf key) key.size j else 0)) (fun i _ => 16 - (intOf i).toNat)
  case atStart =>
    refine ⟨0, by omega, rfl, ⟨ps2.alloc _, pk.alloc _, Row.congr (Row.new _ _ _ _ _ rfl) (fun j hj => rfl), ps2.1, pk.1, b12.alloc hw2 _⟩⟩
  case round =>
    clear ps2 pk b12
    obtain ⟨k, hk, rfl, hS⟩ := hrel
    generalize hks : ksF (sf key) key.size = ks at *
    by_cases hlt : k < 16
    · have c0 := hS.k.2 k (by omega)
      have c1 := hS.r.cell k hlt
      have f1 := hS.r.frozen k
      simp only [in8] at c1
      rw [if_neg (by omega)] at c1
      have hix : text[k]'(by omega) = sf text k := by
        have h' : k < text.data.size := by have : text.size = text.data.size := rfl; omega
        show text.data[k] = text.data.getD k 0
        simp [Array.getElem?_eq_getElem h']
      have hbb : ((sf text k).toNat : Int) < 256 := by have := (sf text k).toNat_lt; omega
      have hwr : IntKind.i64.wrap ((sf text k).toNat : Int) = ((sf text k).toNat : Int) := by rw [IntKind.wrap_i64]; omega
      have HX : Hid _ := i64_xor_b (sf text k) (ks k)
      clear hks
      go_wp2
      go_region
      go_wp2
      rw [HX.out]
      refine ⟨⟨k + 1, by omega, by go_num, (hS.set hw2 k _ (fun i hi => ?_)).drew⟩, by simp [intOf]; omega⟩
      by_cases hik : i = k
      · subst hik; rw [if_pos (by omega), if_pos rfl]
      · rw [if_neg hik]
        by_cases hi2 : i < k
        · rw [if_pos hi2, if_pos (by omega)]
        · rw [if_neg hi2, if_neg (by omega)]
    · have hk16 : k = 16 := by omega
      subst hk16
      have HKS : Hid _ := hks
      clear hks
      generalize hx : sf text = x at *
      have HXT : Hid _ := hx
      clear hx
      have hS1 : S25 w wr gs gk L w2.heap.size ks (stR ks x R 1) := hS.congr (fun i hi => by
        rw [if_pos hi]; unfold stR; rw [if_pos (by omega)]; show _ = x i ^^^ ks (16 * 0 + i); rw [show 16 * 0 + i = i by omega])
      clear hS
      go_wp2
      go_loopw [10] (fun i wx => ∃ r : Nat, 1 ≤ r ∧ r ≤ R + 1 ∧ i = .int .i64 r ∧ S25 w wx gs gk L w2.heap.size ks (stR ks x R r)) (fun i _ => R + 1 - (intOf i).toNat)
      case atStart => exact ⟨1, by omega, by omega, rfl, hS1⟩
      case round =>
        clear hS1
        obtain ⟨r, hr1, hr2, rfl, hS⟩ := hrel
        by_cases hrl : r ≤ R
        · have hlm : w2.heap.size < wr.heap.size := hS.r.lt
          generalize hy : stR ks x R r = y at *
          have HY : Hid _ := hy
          clear hy
          go_wp2
          obtain ⟨mn, hmn⟩ : ∃ mn, mn = wr.heap.size := ⟨_, rfl⟩
          rw [← hmn]
          rw [← hmn] at hlm
          go_loopw [12] (fun i wx => ∃ c : Nat, c ≤ 4 ∧ i = .int .i64 c ∧ S25 w wx gs gk L w2.heap.size ks y ∧ Row wx mn 16 3 (in8 fun j => if j < 4 * c then ssF y j else 0)) (fun i _ => 4 - (intOf i).toNat)
          case atStart => exact ⟨0, by omega, rfl, hS.alloc _, Row.congr (Row.new _ _ _ _ _ hmn) (fun j hj => rfl)⟩
          case round =>
            clear hS hmn
            obtain ⟨c, hc, rfl, hS, hn⟩ := hrel
            by_cases hcl : c < 4
            · go_wp2
              go_loopw [13] (fun i wx => ∃ q : Nat, q ≤ 4 ∧ i = .int .i64 q ∧ S25 w wx gs gk L w2.heap.size ks y ∧ Row wx mn 16 3 (in8 fun j => if j < 4 * c + q then ssF y j else 0)) (fun i _ => 4 - (intOf i).toNat)
              case atStart => exact ⟨0, by omega, rfl, hS, hn⟩
              case round =>
                clear hS hn
                obtain ⟨q, hq, rfl, hS, hn⟩ := hrel
                by_cases hql : q < 4
                · have c0 := hS.r.cell (4 * ((c + q) % 4) + q) (by omega)
                  simp only [in8] at c0
                  have c1 := hS.s.2 (y (4 * ((c + q) % 4) + q)).toNat (UInt8.toNat_lt _)
                  have c2 := hn.cell (4 * c + q) (by omega)
                  have f2 := hn.frozen (4 * c + q)
                  have hb : ((y (4 * ((c + q) % 4) + q)).toNat : Int) < 256 := by have := (y (4 * ((c + q) % 4) + q)).toNat_lt; omega
                  have hci : (c : Int) < 4 := by omega
                  have hqi : (q : Int) < 4 := by omega
                  have e1 : ((c : Int) + (q : Int)) % 4 = (((c + q) % 4 : Nat) : Int) := by simp
                  have e0 : (4 * (((c : Int) + (q : Int)) % 4) + (q : Int)).toNat = 4 * ((c + q) % 4) + q := by rw [e1]; omega
                  clear e1
                  go_wp2
                  refine ⟨⟨q + 1, by omega, by go_num, hS.far hlm hw2, (hn.set (4 * c + q) _).congr (fun j hj => ?_)⟩, by simp [intOf]; omega⟩
                  simp only [in8]
                  by_cases hjk : j = 4 * c + q
                  · subst hjk
                    rw [if_pos rfl, if_pos (by omega)]
                    unfold ssF
                    rw [show (4 * c + q + (4 * c + q) % 4 * 4) % 16 = 4 * ((c + q) % 4) + q by omega]
                  · rw [if_neg hjk]
                    by_cases hj2 : j < 4 * c + q
                    · rw [if_pos hj2, if_pos (by omega)]
                    · rw [if_neg hj2, if_neg (by omega)]
                · have hq4 : q = 4 := by omega
                  subst hq4
                  go_wp2
                  exact ⟨⟨c + 1, by omega, by go_num, hS, hn.congr (fun j hj => by simp only [in8]; rw [show 4 * (c + 1) = 4 * c + 4 by omega])⟩, by simp [intOf]; omega⟩
            · have hc4 : c = 4 := by omega
              subst hc4
              have hn1 : Row wr mn 16 3 (in8 (ssF y)) := hn.congr (fun j hj => by simp only [in8]; rw [if_pos (by omega)])
              clear hn
              generalize hz : ssF y = z at *
              have HZ : Hid _ := hz
              clear hz
              go_wp2
              go_loopw [14] (fun i wx => ∃ c : Nat, c ≤ 4 ∧ i = .int .i64 c ∧ S25 w wx gs gk L w2.heap.size ks (fun j => if j < 4 * c then (if r < R then mx z j else z j) ^^^ ks (16 * r + j) else y j) ∧ Row wx mn 16 3 (in8 z)) (fun i _ => 4 - (intOf i).toNat)
              case atStart => exact ⟨0, by omega, rfl, hS, hn1⟩
              case round =>
                clear hS hn1
                obtain ⟨c, hc, rfl, hS, hn⟩ := hrel
                by_cases hcl : c < 4
                · go_wp2
                  go_loopw [15] (fun i wx => ∃ q : Nat, q ≤ 4 ∧ i = .int .i64 q ∧ S25 w wx gs gk L w2.heap.size ks (fun j => if j < 4 * c + q then (if r < R then mx z j else z j) ^^^ ks (16 * r + j) else y j) ∧ Row wx mn 16 3 (in8 z)) (fun i _ => 4 - (intOf i).toNat)
                  case atStart => exact ⟨0, by omega, rfl, hS, hn⟩
                  case round =>
                    clear hS hn
                    obtain ⟨q, hq, rfl, hS, hn⟩ := hrel
                    by_cases hql : q < 4
                    · have c0 := hn.cell (4 * c + q) (by omega)
                      have c1 := hn.cell (4 * c + (q + 1) % 4) (by omega)
                      have c2 := hn.cell (4 * c + (q + 2) % 4) (by omega)
                      have c3 := hn.cell (4 * c + (q + 3) % 4) (by omega)
                      simp only [in8] at c0 c1 c2 c3
                      have d0 := hS.r.cell (4 * c + q) (by omega)
                      have f0 := hS.r.frozen (4 * c + q)
                      have k0 := hS.k.2 (16 * r + 4 * c + q) (by have := HRL.out; omega)
                      have hci : (c : Int) < 4 := by omega
                      have hqi : (q : Int) < 4 := by omega
                      have hri : (r : Int) ≤ (R : Int) := by omega
                      by_cases hrR : r < R
                      · have hri2 : (r : Int) < (R : Int) := by omega
                        have e1 : (4 * (c : Int) + ((q : Int) + 1) % 4).toNat = 4 * c + (q + 1) % 4 := by omega
                        have e2 : (4 * (c : Int) + ((q : Int) + 2) % 4).toNat = 4 * c + (q + 2) % 4 := by omega
                        have e3 : (4 * (c : Int) + ((q : Int) + 3) % 4).toNat = 4 * c + (q + 3) % 4 := by omega
                        go_wp2_with fail
                        refine (times_2x _ _).mono ?_
                        rintro e w5 ⟨rfl, hw5⟩
                        subst hw5
                        go_wp2_with fail
                        refine (times_3x _ _).mono ?_
                        rintro e w5 ⟨rfl, hw5⟩
                        subst hw5
                        go_wp2_with fail
                        have HX : Hid (bits .xor .i64 (bits .xor .i64 (bits .xor .i64 (bits .xor .i64 ((dbl (z (4 * c + q))).toNat : Int) (((z (4 * c + (q + 1) % 4)).toNat ^^^ (dbl (z (4 * c + (q + 1) % 4))).toNat : Nat) : Int)) ((z (4 * c + (q + 2) % 4)).toNat : Int)) ((z (4 * c + (q + 3) % 4)).toNat : Int)) ((ks (16 * r + 4 * c + q)).toNat : Int) = ((mx z (4 * c + q) ^^^ ks (16 * r + 4 * c + q)).toNat : Int)) := by
                          show _ = _
                          rw [← UInt8.toNat_xor, i64_xor_b, i64_xor_b, i64_xor_b, i64_xor_b, mx_ref z c q hql]
                        go_region
                        go_wp2
                        rw [HX.out]
                        refine ⟨⟨q + 1, by omega, by omega, (hS.set hw2 (4 * c + q) _ (fun j hj => ?_)).drew, (hn.other (by omega)).drew⟩, by simp [intOf]; omega⟩
                        by_cases hjk : j = 4 * c + q
                        · subst hjk
                          rw [if_pos rfl, if_pos (by omega), show 16 * r + (4 * c + q) = 16 * r + 4 * c + q by omega]
                        · rw [if_neg hjk]
                          by_cases hj2 : j < 4 * c + q
                          · rw [if_pos hj2, if_pos (by omega), if_pos (by assumption)]
                          · rw [if_neg hj2, if_neg (by omega)]
                      · have hri2 : ¬ (r : Int) < (R : Int) := by omega
                        have HX : Hid _ := i64_xor_b (z (4 * c + q)) (ks (16 * r + 4 * c + q))
                        go_wp2
                        rw [HX.out]
                        refine ⟨⟨q + 1, by omega, by go_num, hS.set hw2 (4 * c + q) _ (fun j hj => ?_), hn.other (by omega)⟩, by simp [intOf]; omega⟩
                        rw [if_neg hrR]
                        by_cases hjk : j = 4 * c + q
                        · subst hjk
                          rw [if_pos rfl, if_pos (by omega), show 16 * r + (4 * c + q) = 16 * r + 4 * c + q by omega]
                        · rw [if_neg hjk]
                          by_cases hj2 : j < 4 * c + q
                          · rw [if_pos hj2, if_pos (by omega)]
                          · rw [if_neg hj2, if_neg (by omega)]
                    · have hq4 : q = 4 := by omega
                      subst hq4
                      go_wp2
                      exact ⟨⟨c + 1, by omega, by go_num, hS.congr (fun j hj => by rw [show 4 * (c + 1) = 4 * c + 4 by omega]), hn⟩, by simp [intOf]; omega⟩
                · have hc4 : c = 4 := by omega
                  subst hc4
                  go_wp2
                  refine ⟨⟨r + 1, by omega, by omega, by go_num, hS.congr (fun j hj => ?_)⟩, by simp [intOf]; omega⟩
                  rw [if_pos (by omega), ← HZ.out, ← HY.out]
                  unfold stR
                  rw [if_pos hrl]
                  by_cases hrR : r < R
                  · rw [if_pos hrR, if_pos (by omega)]
                    obtain ⟨r', rfl⟩ : ∃ r', r = r' + 1 := ⟨r - 1, by omega⟩
                    rfl
                  · have hre : r = R := by omega
                    rw [if_neg hrR, if_neg (by omega), hre]
                    rfl
        · have hre : r = R + 1 := by omega
          have hS1 : S25 w wr gs gk L w2.heap.size ks (encF ks x R) := hS.congr (fun j hj => by unfold stR; rw [if_neg hrl])
          have hlm : w2.heap.size < wr.heap.size := hS.r.lt
          clear hS
          generalize hu : encF ks x R = u at *
          have HU : Hid _ := hu
          clear hu
          go_wp2
          obtain ⟨mo, hmo⟩ : ∃ mo, mo = wr.heap.size := ⟨_, rfl⟩
          rw [← hmo]
          rw [← hmo] at hlm
          go_loopw [20] (fun i wx => ∃ k : Nat, k ≤ 16 ∧ i = .int .i64 k ∧ S25 w wx gs gk L w2.heap.size ks u ∧ Row wx mo 16 5 (by8 fun j => if j < k then u j else 0)) (fun i _ => 16 - (intOf i).toNat)
          case atStart => exact ⟨0, by omega, rfl, hS1.alloc _, Row.congr (V := z8) (Row.new _ _ _ _ _ hmo) (fun j hj => rfl)⟩
          case round =>
            clear hS1 hmo
            obtain ⟨k, hk, rfl, hS, hn⟩ := hrel
            by_cases hkl : k < 16
            · have c0 := hS.r.cell k hkl
              simp only [in8] at c0
              have c1 := hn.cell k hkl
              have f1 := hn.frozen k
              have hb : ((u k).toNat : Int) < 256 := by have := (u k).toNat_lt; omega
              go_wp2
              refine ⟨⟨k + 1, by omega, by go_num, hS.far hlm hw2, (hn.set k _).congr (fun j hj => ?_)⟩, by simp [intOf]; omega⟩
              simp only [by8]
              by_cases hjk : j = k
              · subst hjk
                rw [if_pos rfl, if_pos (by omega)]
              · rw [if_neg hjk]
                by_cases hj2 : j < k
                · rw [if_pos hj2, if_pos (by omega)]
                · rw [if_neg hj2, if_neg (by omega)]
            · have hk16 : k = 16 := by omega
              subst hk16
              have r1 : Row wr mo 16 5 (by8 (aesF (sf key) (sf text) key.size)) := hn.congr (fun j hj => by
                simp only [by8]
                rw [if_pos hj, ← HU.out, ← HKS.out, ← HXT.out, HR.out]; rfl)
              have q1 := heap_pos r1
              go_wp2
              go_ret
              exact ⟨rfl, hS.b⟩
end Go.Proofs.YtgalgjmhdbncbaaGreat
namespace Go.Proofs.YtgalgjmhdbncbaaGreat
open Go.RowKit

set_option maxRecDepth 100000 in
set_option maxHeartbeats 1000000 in
theorem rhash_str (k : Nat → UInt8) (s : ByteArray) (hs : s.size ≤ maxLen) (hn : s.size % 16 = 0) (w : World) :
    Calls Tryz.prog 125 #[.string (str 16 k), .string s] w fun e w' => e = .returned (.string (str 16 (hashN k (sf s) (s.size / 16)))) ∧ Below w.heap.size w w' := by
  unfold maxLen at hs
  have HN : Hid _ := hn
  clear hn
  go_enter Tryz.func125, Tryz.ntmps125
  go_wp2_with fail
  refine (number0_ref _).mono ?_
  rintro e w1 ⟨rfl, b1⟩
  go_wp2_with fail
  go_loopw [5, 6] (fun y i wr => ∃ q A : Nat, Hid (A = 16 * q) ∧ A ≤ s.size ∧ i = .int .i64 A ∧ y = .string (str 16 (hashN k (sf s) q)) ∧ Below w.heap.size w wr) (fun _ i _ => s.size - (intOf i).toNat)
  case atStart => exact ⟨0, 0, rfl, by omega, rfl, rfl, b1⟩
  case round =>
    obtain ⟨q, A, HA, hA, rfl, rfl, hB⟩ := hrel
    by_cases hlt : A < s.size
    · have hA16 : A + 16 ≤ s.size := by
        have e1 := HA.out
        have e2 := HN.out
        omega
      have hsz : (s.size : Int) < 9223372036854775807 := by
        have e2 := HN.out
        omega
      have hex : s.extract A (A + 16) = str 16 (fun j => sf s (16 * q + j)) := by
        apply bytes_ext
        · rw [cut_size _ _ _ hA16, str_size]; omega
        · intro j hj
          rw [cut_size _ _ _ hA16] at hj
          rw [sf_cut _ _ _ _ hA16 (by omega), sf_str _ _ _ (by omega), HA.out]
      go_wp2_with fail
      refine (rxor_ref 16 _ _ (by omega) _).mono ?_
      rintro e w2 ⟨rfl, b2⟩
      go_wp2_with fail
      refine (product_str _ _ _).mono ?_
      rintro e w3 ⟨rfl, b3⟩
      go_wp2
      refine ⟨⟨q + 1, A + 16, by have := HA.out; show A + 16 = _; omega, hA16, by go_num, rfl, ?_⟩, by simp [intOf]; omega⟩
      exact (hB.trans (b2.mono hB.size)).trans (b3.mono (by have := hB.size; have := b2.size; omega))
    · have hAs : s.size / 16 = q := by
        have e1 := HA.out
        have e2 := HN.out
        omega
      have HQ : Hid _ := hAs
      clear hAs
      go_wp2
      go_ret
      exact ⟨by rw [HQ.out]; rfl, hB⟩
theorem rhash_ref (h s : ByteArray) (hh : h.size = 16) (hs : s.size ≤ maxLen) (hn : s.size % 16 = 0) (w : World) :
    Calls Tryz.prog 125 #[.string h, .string s] w fun e w' => e = .returned (.string (str 16 (hashN (sf h) (sf s) (s.size / 16)))) ∧ Below w.heap.size w w' := by
  have := rhash_str (sf h) s hs hn w
  rwa [str_sf h 16 hh] at this

set_option maxRecDepth 100000 in
set_option maxHeartbeats 1000000 in
theorem rHash_key (h s : ByteArray) (hh : h.size ≠ 16) (w : World) : Calls Tryz.prog 92 #[.string h, .string s] w fun e w' => e = .returned (.tuple #[.string ⟨#[]⟩, .int .i64 2]) ∧ w' = w := by
  have hb : ((h.size : Int) != 16) = true := by rw [bne_iff_ne]; omega
  go_enter Tryz.func92, Tryz.ntmps92
  go_wp2
  go_ret2
  exact ⟨rfl, rfl⟩
set_option maxRecDepth 100000 in
set_option maxHeartbeats 1000000 in
theorem rHash_size (h s : ByteArray) (hh : h.size = 16) (hs : s.size ≤ maxLen) (hn : s.size % 16 ≠ 0) (w : World) : Calls Tryz.prog 92 #[.string h, .string s] w fun e w' => e = .returned (.tuple #[.string ⟨#[]⟩, .int .i64 5]) ∧ w' = w := by
  unfold maxLen at hs
  have hb : ((h.size : Int) != 16) = false := by rw [bne_eq_false_iff_eq]; omega
  have hm : (((s.size : Int) % 16) != 0) = true := by rw [bne_iff_ne]; omega
  clear hh
  go_enter Tryz.func92, Tryz.ntmps92
  go_wp2
  go_ret2
  exact ⟨rfl, rfl⟩
set_option maxRecDepth 100000 in
set_option maxHeartbeats 1000000 in
theorem rHash_ok (h s : ByteArray) (hh : h.size = 16) (hs : s.size ≤ maxLen) (hn : s.size % 16 = 0) (w : World) : Calls Tryz.prog 92 #[.string h, .string s] w fun e w' => e = .returned (.tuple #[.string (str 16 (hashN (sf h) (sf s) (s.size / 16))), .int .i64 0]) ∧ Below w.heap.size w w' := by
  have HS : Hid _ := hs
  have HH : Hid _ := hh
  have HN : Hid _ := hn
  have hb : ((h.size : Int) != 16) = false := by rw [bne_eq_false_iff_eq]; omega
  have hm : (((s.size : Int) % 16) != 0) = false := by rw [bne_eq_false_iff_eq]; omega
  unfold maxLen at hs
  clear hh hn
  go_enter Tryz.func92, Tryz.ntmps92
  go_wp2_with fail
  refine (rhash_ref h s HH HS HN _).mono ?_
  rintro e w1 ⟨rfl, b1⟩
  go_wp2
  go_ret2
  exact ⟨rfl, b1⟩
end Go.Proofs.YtgalgjmhdbncbaaGreat
namespace Go.Proofs.YtgalgjmhdbncbaaGreat
open Go.RowKit

def algN (n : Nat) : Int := if n = 16 then 1 else if n = 24 then 2 else if n = 32 then 3 else 0

set_option maxRecDepth 100000 in
set_option maxHeartbeats 1000000 in
theorem rAlg_any (key : ByteArray) (w : World) : Calls Tryz.prog 105 #[.string key] w fun e w' => e = .returned (.int .i64 (algN key.size)) ∧ w' = w := by
  by_cases h16 : key.size = 16
  · have hA : algN key.size = 1 := by unfold algN; rw [if_pos h16]
    have b1 : ((key.size : Int) == 16) = true := by rw [beq_iff_eq]; omega
    rw [hA]
    clear hA h16
    go_enter Tryz.func105, Tryz.ntmps105
    go_wp2
    go_ret
    exact ⟨rfl, rfl⟩
  · have b1 : ((key.size : Int) == 16) = false := by rw [beq_eq_false_iff_ne]; omega
    by_cases h24 : key.size = 24
    · have hA : algN key.size = 2 := by unfold algN; rw [if_neg h16, if_pos h24]
      have b2 : ((key.size : Int) == 24) = true := by rw [beq_iff_eq]; omega
      rw [hA]
      clear hA h16 h24
      go_enter Tryz.func105, Tryz.ntmps105
      go_wp2
      go_ret
      exact ⟨rfl, rfl⟩
    · have b2 : ((key.size : Int) == 24) = false := by rw [beq_eq_false_iff_ne]; omega
      by_cases h32 : key.size = 32
      · have hA : algN key.size = 3 := by unfold algN; rw [if_neg h16, if_neg h24, if_pos h32]
        have b3 : ((key.size : Int) == 32) = true := by rw [beq_iff_eq]; omega
        rw [hA]
        clear hA h16 h24 h32
        go_enter Tryz.func105, Tryz.ntmps105
        go_wp2
        go_ret
        exact ⟨rfl, rfl⟩
      · have hA : algN key.size = 0 := by unfold algN; rw [if_neg h16, if_neg h24, if_neg h32]
        have b3 : ((key.size : Int) == 32) = false := by rw [beq_eq_false_iff_ne]; omega
        rw [hA]
        clear hA h16 h24 h32
        go_enter Tryz.func105, Tryz.ntmps105
        go_wp2
        go_ret
        exact ⟨rfl, rfl⟩
theorem rAlg_no (key : ByteArray) (h1 : key.size ≠ 16) (h2 : key.size ≠ 24) (h3 : key.size ≠ 32) (w : World) : Calls Tryz.prog 105 #[.string key] w fun e w' => e = .returned (.int .i64 0) ∧ w' = w := by
  have := rAlg_any key w
  rwa [show algN key.size = 0 by unfold algN; rw [if_neg h1, if_neg h2, if_neg h3]] at this
theorem rAlg_yes (key : ByteArray) (h : key.size = 16 ∨ key.size = 24 ∨ key.size = 32) (w : World) : Calls Tryz.prog 105 #[.string key] w fun e w' => (∃ n : Nat, (0 < n ∧ n < 4) ∧ e = .returned (.int .i64 n)) ∧ w' = w := by
  have := rAlg_any key w
  unfold algN at this
  rcases h with h | h | h
  · rw [if_pos h] at this
    exact this.mono fun e w' ⟨h1, h2⟩ => ⟨⟨1, by omega, h1⟩, h2⟩
  · rw [if_neg (by omega), if_pos h] at this
    exact this.mono fun e w' ⟨h1, h2⟩ => ⟨⟨2, by omega, h1⟩, h2⟩
  · rw [if_neg (by omega), if_neg (by omega), if_pos h] at this
    exact this.mono fun e w' ⟨h1, h2⟩ => ⟨⟨3, by omega, h1⟩, h2⟩

set_option maxRecDepth 100000 in
set_option maxHeartbeats 1000000 in
theorem rEnc_key (key block : ByteArray) (h1 : key.size ≠ 16) (h2 : key.size ≠ 24) (h3 : key.size ≠ 32) (w : World) :
    Calls Tryz.prog 90 #[.string key, .string block] w fun e w' => e = .returned (.tuple #[.string ⟨#[]⟩, .int .i64 2]) ∧ w' = w := by
  have H1 : Hid _ := h1
  have H2 : Hid _ := h2
  have H3 : Hid _ := h3
  clear h1 h2 h3
  go_enter Tryz.func90, Tryz.ntmps90
  go_wp2_with fail
  refine (rAlg_no key H1 H2 H3 _).mono ?_
  rintro e w1 ⟨rfl, hw⟩
  subst hw
  go_wp2
  go_ret2
  exact ⟨rfl, rfl⟩
set_option maxRecDepth 100000 in
set_option maxHeartbeats 1000000 in
theorem rEnc_size (key block : ByteArray) (h : key.size = 16 ∨ key.size = 24 ∨ key.size = 32) (hb : block.size ≠ 16) (w : World) :
    Calls Tryz.prog 90 #[.string key, .string block] w fun e w' => e = .returned (.tuple #[.string ⟨#[]⟩, .int .i64 5]) ∧ w' = w := by
  have H : Hid _ := h
  have b1 : ((block.size : Int) != 16) = true := by rw [bne_iff_ne]; omega
  clear h hb
  go_enter Tryz.func90, Tryz.ntmps90
  go_wp2_with fail
  refine (rAlg_yes key H _).mono ?_
  rintro e w1 ⟨⟨n, ⟨hn1, hn2⟩, rfl⟩, hw⟩
  subst hw
  have b0 : ((n : Int) == 0) = false := by rw [beq_eq_false_iff_ne]; omega
  go_wp2
  go_ret2
  exact ⟨rfl, rfl⟩
set_option maxRecDepth 100000 in
set_option maxHeartbeats 1000000 in
theorem rEnc_ok (key block : ByteArray) (h : key.size = 16 ∨ key.size = 24 ∨ key.size = 32) (hb : block.size = 16) (w : World) :
    Calls Tryz.prog 90 #[.string key, .string block] w fun e w' => e = .returned (.tuple #[.string (str 16 (aesF (sf key) (sf block) key.size)), .int .i64 0]) ∧ Below w.heap.size w w' := by
  have H : Hid _ := h
  have HB : Hid _ := hb
  have b1 : ((block.size : Int) != 16) = false := by rw [bne_eq_false_iff_eq]; omega
  clear h hb
  go_enter Tryz.func90, Tryz.ntmps90
  go_wp2_with fail
  refine (rAlg_yes key H _).mono ?_
  rintro e w1 ⟨⟨n, ⟨hn1, hn2⟩, rfl⟩, hw⟩
  subst hw
  have b0 : ((n : Int) == 0) = false := by rw [beq_eq_false_iff_ne]; omega
  go_wp2_with fail
  refine (E_ref key block H HB _).mono ?_
  rintro e w2 ⟨rfl, hb2⟩
  go_wp2
  go_ret2
  exact ⟨rfl, hb2⟩
set_option maxRecDepth 100000 in
set_option maxHeartbeats 1000000 in
theorem num_any (n : Int) (w : World) : Calls Tryz.prog 62 #[.int .i64 n] w fun e w' => e = .returned (.int .i64 n) ∧ w' = w := by
  go_enter Tryz.func62, Tryz.ntmps62
  go_wp2
  go_ret
  exact ⟨rfl, rfl⟩

theorem encBoth (key block : ByteArray) (hs : key.size ≤ maxLen) : ∃ (v : ByteArray) (n : Int),
    (∀ w, Calls Tryz.prog 89 #[.string key, .string block] w fun e w' => e = .returned (.tuple #[.string v, .int .i64 n]) ∧ Below w.heap.size w w') ∧
    (∀ w, Calls Tryz.prog 90 #[.string key, .string block] w fun e w' => e = .returned (.tuple #[.string v, .int .i64 n]) ∧ Below w.heap.size w w') := by
  by_cases h : key.size = 16 ∨ key.size = 24 ∨ key.size = 32
  · by_cases hb : block.size = 16
    · exact ⟨_, _, fun w => enc_ok key block hs h hb w, fun w => rEnc_ok key block h hb w⟩
    · exact ⟨_, _, fun w => enc_size key block hs h hb w, fun w => (rEnc_size key block h hb w).mono fun e w' ⟨h1, h2⟩ => ⟨h1, h2 ▸ Below.refl _ _⟩⟩
  · exact ⟨_, _, fun w => enc_key key block hs (fun e => h (.inl e)) (fun e => h (.inr (.inl e))) (fun e => h (.inr (.inr e))) w,
      fun w => (rEnc_key key block (fun e => h (.inl e)) (fun e => h (.inr (.inl e))) (fun e => h (.inr (.inr e))) w).mono fun e w' ⟨h1, h2⟩ => ⟨h1, h2 ▸ Below.refl _ _⟩⟩
theorem hashBoth (h s : ByteArray) (hs : s.size ≤ maxLen) : ∃ (v : ByteArray) (n : Int),
    (∀ w, Calls Tryz.prog 91 #[.string h, .string s] w fun e w' => e = .returned (.tuple #[.string v, .int .i64 n]) ∧ Below w.heap.size w w') ∧
    (∀ w, Calls Tryz.prog 92 #[.string h, .string s] w fun e w' => e = .returned (.tuple #[.string v, .int .i64 n]) ∧ Below w.heap.size w w') := by
  by_cases hh : h.size = 16
  · by_cases hn : s.size % 16 = 0
    · exact ⟨_, _, fun w => chash_ok h s w hh hs hn, fun w => rHash_ok h s hh hs hn w⟩
    · exact ⟨_, _, fun w => chash_size h s w hh hs hn, fun w => (rHash_size h s hh hs hn w).mono fun e w' ⟨h1, h2⟩ => ⟨h1, h2 ▸ Below.refl _ _⟩⟩
  · exact ⟨_, _, fun w => chash_key h s w hh, fun w => (rHash_key h s hh w).mono fun e w' ⟨h1, h2⟩ => ⟨h1, h2 ▸ Below.refl _ _⟩⟩
end Go.Proofs.YtgalgjmhdbncbaaGreat
namespace Go.Proofs.YtgalgjmhdbncbaaGreat
open Go.RowKit
attribute [local go_sem ↓] Go.wp_at_zero Go.wp_at_succ

theorem pad_step (s x : ByteArray) (n : Nat) (hn : s.size ≤ n) (hx : x.size = 1) (h0 : sf x 0 = 0) : str n (sf s) ++ x = str (n + 1) (sf s) := by
  apply bytes_ext
  · rw [ByteArray.size_append, str_size, str_size, hx]
  · intro j hj
    rw [ByteArray.size_append, str_size, hx] at hj
    rw [sf_append, str_size, sf_str (n + 1) _ j (by omega)]
    by_cases h : j < n
    · rw [if_pos h, sf_str _ _ _ h]
    · rw [if_neg h, show j - n = 0 by omega, h0, sf_past _ _ (by omega)]
set_option maxRecDepth 100000 in
set_option maxHeartbeats 1000000 in
theorem padded_ref (s : ByteArray) (hs : s.size ≤ 1000) (w : World) : Calls Tryz.prog 147 #[.string s] w fun e w' => e = .returned (.string (padT s)) ∧ w' = w := by
  have hu := up16_up s.size
  have hm := up16_mod s.size
  have HS : Hid (str s.size (sf s) = s) := str_sf s _ rfl
  go_enter Tryz.func147, Tryz.ntmps147
  go_wp2
  go_loop [0] (fun t => ∃ L : Nat, s.size ≤ L ∧ L ≤ up16 s.size ∧ t = .string (str L (sf s))) (fun t => up16 s.size - strLen t)
  case atStart => exact ⟨s.size, Nat.le_refl _, up16_le s.size, by rw [HS.out]⟩
  case round =>
    obtain ⟨L, hL, hk, rfl⟩ := hrel
    have hz := str_size L (sf s)
    by_cases h : L % 16 = 0
    · have hd : ((L : Int) % 16 != 0) = false := by rw [bne_eq_false_iff_eq]; omega
      have he : L = up16 s.size := by unfold up16 at *; omega
      have HE : Hid (str L (sf s) = padT s) := by show _ = _; rw [he]; rfl
      clear he h hk hu hm
      go_wp2
      go_ret
      exact ⟨by rw [← HE.out]; rfl, rfl⟩
    · have hd : ((L : Int) % 16 != 0) = true := by rw [bne_iff_ne]; omega
      have hlt : L < up16 s.size := by
        rcases Nat.lt_or_ge L (up16 s.size) with h' | h'
        · exact h'
        · exfalso
          have : L = up16 s.size := by omega
          omega
      go_wp2
      go_round
      case rel => exact ⟨L + 1, by omega, by omega, congrArg Value.string (pad_step s _ L (by omega) rfl rfl)⟩
      case measure => simp only [strLen]; rw [ByteArray.size_append, hz]; show up16 s.size - (L + 1) < _; omega
set_option maxRecDepth 100000 in
set_option maxHeartbeats 1000000 in
theorem value_ref (s : ByteArray) (a n : Nat) (ha : a + n ≤ s.size) (hn : n ≤ 4) (ha2 : a ≤ 1000) (w : World) : Calls Tryz.prog 131 #[.string s, .int .i64 a, .int .i64 n] w fun e w' => e = .returned (.int .i64 (valF (sf s) a n)) ∧ w' = w := by
  go_enter Tryz.func131, Tryz.ntmps131
  go_wp2
  go_loop [7, 8] (fun x i => ∃ q u : Nat, Hid (u = valF (sf s) a q) ∧ q ≤ n ∧ u < 4294967296 ∧ x = .int .i64 u ∧ i = .int .i64 ((a + q : Nat) : Int)) (fun _ i => a + n - (intOf i).toNat)
  case atStart => exact ⟨0, 0, rfl, by omega, by omega, rfl, rfl⟩
  case round =>
    obtain ⟨q, u, HU, hq, hu, rfl, rfl⟩ := hrel
    by_cases hlt : q < n
    · have hix := sf_idx' s (a + q) (by omega)
      have hbb := (sf s (a + q)).toNat_lt
      have hd : (((a + q : Nat) : Int) < (a : Int) + (n : Int)) := by omega
      have hlen : ((a + q : Nat) : Int) < (s.size : Int) := by omega
      have hu2 : u * 256 + (sf s (a + q)).toNat < 4294967296 := by
        have h1 := valF_lt (sf s) a (q + 1)
        have h2 : 256 ^ (q + 1) ≤ 256 ^ 4 := Nat.pow_le_pow_right (by omega) (by omega)
        have h3 : (256 : Nat) ^ 4 = 4294967296 := rfl
        have h4 : valF (sf s) a (q + 1) = u * 256 + (sf s (a + q)).toNat := by rw [HU.out]; rfl
        omega
      have HQ : Hid (u * 256 + (sf s (a + q)).toNat = valF (sf s) a (q + 1)) := by show _ = _; rw [HU.out]; rfl
      go_wp2
      go_round
      case rel => exact ⟨q + 1, u * 256 + (sf s (a + q)).toNat, HQ, by omega, hu2, by go_num, by go_num⟩
      case measure => simp [intOf]; omega
    · have hqn : q = n := by omega
      subst hqn
      go_wp2
      go_ret
      exact ⟨by rw [← HU.out]; rfl, rfl⟩
end Go.Proofs.YtgalgjmhdbncbaaGreat
