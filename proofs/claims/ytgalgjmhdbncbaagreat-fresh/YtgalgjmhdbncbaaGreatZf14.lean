import Derived.Test.YtgalgjmhdbncbaaGreatZf13
import Derived.Deep.RegionHeld
namespace Go.Proofs.YtgalgjmhdbncbaaGreat
open Go.RowKit
attribute [local go_sem ↓] Go.wp_at_zero Go.wp_at_succ
attribute [local go_sem ↓] ldw40 stw40 al40 bd40 bd117
attribute [local go_sem] run_ldT40 ldN_row run_stT40 stN_row stN_z run_al40 run_bd40 run_bd117
attribute [local go_sem] blk_new blk_at blk_old blk_drew blk_setCell blk_setRow

def lenF (a b : Nat) : Nat → UInt8 := putF (putF (fun _ => 0) 0 8 (8 * a)) 8 8 (8 * b)
theorem len_cat (a b : Nat) : str 16 (lenF a b) = numT (8 * a) 8 ++ numT (8 * b) 8 := by
  apply bytes_ext
  · rw [str_size, ByteArray.size_append, numT_size, numT_size]
  · intro j hj
    rw [str_size] at hj
    rw [sf_str _ _ _ hj, sf_append, numT_size]
    unfold lenF putF
    by_cases h : j < 8
    · rw [if_neg (by omega), if_pos (by omega), if_pos h]
      exact (sf_str _ _ _ h).symm
    · rw [if_pos (by omega), if_neg h]
      exact (sf_str _ _ _ (by omega)).symm
theorem tagT_cat (m b : ByteArray) : padT m ++ padT b ++ str 16 (lenF m.size b.size) = tagT m b := by
  rw [len_cat]
  unfold tagT
  exact ByteArray.append_assoc.symm
def hashF (key m b : ByteArray) : Nat → UInt8 := hashN (hK key) (sf (tagT m b)) ((tagT m b).size / 16)

structure S87 (w0 w : World) (n g gc : Nat) (key : ByteArray) (l : Nat → UInt8) : Prop where
  m : Mod w g gc key
  r0 : Row w n 16 145 z8
  r1 : Row w (n + 1) 16 145 (by8 l)
  lg : g < n
  lc : gc < n
  b : Below n w0 w
theorem S87.drew {w0 w : World} {n g gc : Nat} {key : ByteArray} {l : Nat → UInt8} (h : S87 w0 w n g gc key l) : S87 w0 w.drew n g gc key l := ⟨h.m.drew, h.r0, h.r1, h.lg, h.lc, h.b.drew⟩
theorem S87.keep {w0 w w1 : World} {n g gc : Nat} {key : ByteArray} {l : Nat → UInt8} (h : S87 w0 w n g gc key l) (hb : Below w.heap.size w w1) : S87 w0 w1 n g gc key l :=
  ⟨h.m.keep hb, h.r0.keep hb h.r0.lt, h.r1.keep hb h.r1.lt, h.lg, h.lc, h.b.trans (hb.mono (Nat.le_of_lt h.r0.lt))⟩
theorem S87.put {w0 w w1 : World} {n g gc : Nat} {key : ByteArray} {l l' : Nat → UInt8} (h : S87 w0 w n g gc key l) (hc : Chg (n + 1) w w1) (hr : Row w1 (n + 1) 16 145 (by8 l')) : S87 w0 w1 n g gc key l' :=
  ⟨⟨h.m.r.chg hc (by have := h.lg; omega), Row.chg h.m.c hc (by have := h.lc; omega)⟩, h.r0.chg hc (by omega), hr, h.lg, h.lc, Below.chg h.b hc (by omega)⟩
theorem S87.alloc {w0 w : World} {n g gc : Nat} {key : ByteArray} {l : Nat → UInt8} (h : S87 w0 w n g gc key l) (o : Obj) : S87 w0 (w.alloc o) n g gc key l :=
  ⟨h.m.alloc o, h.r0.alloc o, h.r1.alloc o, h.lg, h.lc, h.b.alloc (Nat.le_of_lt h.r0.lt) o⟩
structure S87n (w0 w : World) (n g gc a : Nat) (key : ByteArray) (l : Nat → UInt8) : Prop where
  s : S87 w0 w n g gc key l
  rn : Row w a 16 145 z8
  la : n + 1 < a
theorem S87.new {w0 w : World} {n g gc : Nat} {key : ByteArray} {l : Nat → UInt8} (h : S87 w0 w n g gc key l) : S87n w0 (w.alloc (.cells (arr 16 z8) 145)) n g gc w.heap.size key l :=
  ⟨h.alloc _, Row.new _ _ _ _ _ rfl, h.r1.lt⟩
theorem S87.newd {w0 w : World} {n g gc : Nat} {key : ByteArray} {l : Nat → UInt8} (h : S87 w0 w n g gc key l) : S87n w0 (w.drew.alloc (.cells (arr 16 z8) 145)) n g gc w.heap.size key l :=
  ⟨h.drew.alloc _, Row.new _ _ _ _ _ rfl, h.r1.lt⟩
theorem S87.newe {w0 w : World} {n g gc : Nat} {key : ByteArray} {l : Nat → UInt8} (h : S87 w0 w n g gc key l) : S87n w0 (w.alloc (.cells (arr 16 z8) 145)).drew n g gc w.heap.size key l :=
  ⟨(h.alloc _).drew, (Row.new _ _ _ _ _ rfl).drew, h.r1.lt⟩
theorem S87n.keep {w0 w w1 : World} {n g gc a : Nat} {key : ByteArray} {l : Nat → UInt8} (h : S87n w0 w n g gc a key l) (hb : Below w.heap.size w w1) : S87n w0 w1 n g gc a key l := ⟨h.s.keep hb, h.rn.keep hb h.rn.lt, h.la⟩
theorem S87n.drew {w0 w : World} {n g gc a : Nat} {key : ByteArray} {l : Nat → UInt8} (h : S87n w0 w n g gc a key l) : S87n w0 w.drew n g gc a key l := ⟨h.s.drew, h.rn, h.la⟩
theorem S87n.set {w0 w : World} {n g gc a : Nat} {key : ByteArray} {l : Nat → UInt8} {cs : Array Value} (h : S87n w0 w n g gc a key l) : S87 w0 (w.setRow a cs) n g gc key l :=
  have hc := Chg.setRow w a cs
  ⟨⟨h.s.m.r.chg hc (by have := h.s.lg; have := h.la; omega), Row.chg h.s.m.c hc (by have := h.s.lc; have := h.la; omega)⟩, h.s.r0.chg hc (by have := h.la; omega), h.s.r1.chg hc (by have := h.la; omega), h.s.lg, h.s.lc, Below.chg h.s.b hc (by have := h.la; omega)⟩
theorem ld_h (gc : Nat) (h : Nat → UInt8) (w : World) (r : Result Value) : ldN (some (.cells (arr 17 (modeV gc h)) 192 (0, 0))) 1 16 w r = .ok (.agg (arr 16 (by8 h))) w := by
  rw [ldN_mid _ _ _ _ _ _ _ (by omega)]
  congr 2
attribute [local go_sem] ld_h

set_option maxRecDepth 100000 in
set_option maxHeartbeats 4000000 in
theorem ghash_any (g gc : Nat) (key m b : ByteArray) (hm : m.size ≤ 300) (hb : b.size ≤ 300) (w : World) (hM : Mod w g gc key) :
    Calls Tryz.prog 139 #[.pointer (some ⟨g, 0, none⟩), .string m, .string b] w fun e w' => e = .returned (.agg (arr 16 (by8 (hashF key m b)))) ∧ Below w.heap.size w w' := by
  have hlt := hM.lt
  have hp1 := fun w' hr => put_any (w.heap.size + 1) 0 8 16 16 145 (fun _ => 0) (8 * m.size) (by omega) (by omega) (by omega) w' hr
  have hp2 := fun w' hr => put_any (w.heap.size + 1) 8 8 8 16 145 (putF (fun _ => 0) 0 8 (8 * m.size)) (8 * b.size) (by omega) (by omega) (by omega) w' hr
  rw [show ((8 * m.size : Nat) : Int) = 8 * (m.size : Int) by omega] at hp1
  rw [show ((8 * b.size : Nat) : Int) = 8 * (b.size : Int) by omega] at hp2
  have HP1 : Hid _ := hp1
  have HP2 : Hid _ := hp2
  clear hp1 hp2
  have S0 : S87 w ((w.alloc (.cells (arr 16 z8) 145)).alloc (.cells (arr 16 z8) 145)) w.heap.size g gc key (fun _ => 0) :=
    ⟨(hM.alloc _).alloc _, (Row.new _ _ _ _ _ rfl).alloc _, Row.new _ _ _ _ _ (by simp), hlt.1, hlt.2, ((Below.refl _ _).alloc (Nat.le_refl _) _).alloc (by simp) _⟩
  have HS : Hid _ := S0
  clear S0 hM
  go_enter Tryz.func139, Tryz.ntmps139
  go_wp2_with fail
  refine (HP1.out _ (S87.r1 HS.out)).mono ?_
  rintro e w1 ⟨rfl, hc1, hr1⟩
  have S1 := S87.put HS.out hc1 hr1
  clear HS hc1 hr1 HP1
  go_wp2_with fail
  refine (HP2.out _ S1.r1).mono ?_
  rintro e w2 ⟨rfl, hc2, hr2⟩
  have S2 : S87 w w2 w.heap.size g gc key (lenF m.size b.size) := S87.put S1 hc2 hr2
  clear S1 hc2 hr2 HP2
  go_wp2_with fail
  have q1 := heap_pos S2.r1
  have qm := heap_pos S2.m.r
  have q0 := heap_pos S2.r0
  have l0 : w.heap.size + 1 < w2.heap.size := S2.r1.lt
  have hm1 : m.size ≤ 1000 := by omega
  have hb1 : b.size ≤ 1000 := by omega
  have zm := padT_size m
  have zb := padT_size b
  have ym := up16_up m.size
  have yb := up16_up b.size
  have zt := str_size 16 (lenF m.size b.size)
  have zmb : (padT m ++ padT b).size = up16 m.size + up16 b.size := by rw [ByteArray.size_append, zm, zb]
  have HT : Hid _ := tagT_cat m b
  have hz : (tagT m b).size ≤ maxLen := by rw [tagT_size]; unfold maxLen; omega
  have hz16 : (tagT m b).size % 16 = 0 := by rw [tagT_size]; have := up16_mod m.size; have := up16_mod b.size; omega
  have HH : Hid (∀ W, Calls Tryz.prog 124 #[.agg (arr 16 (by8 (hK key))), .string (padT m ++ padT b ++ str 16 (lenF m.size b.size))] W fun e w' => e = .returned (.tuple #[.agg (arr 16 (by8 (hashF key m b))), .bool true]) ∧ Below W.heap.size W w') := by
    intro W
    rw [HT.out]
    exact bhash_yes _ _ W hz hz16
  have HX : Hid (∀ W, Calls Tryz.prog 79 #[.agg (arr 16 (by8 (lenF m.size b.size)))] W fun e w' => e = .returned (.string (str 16 (lenF m.size b.size))) ∧ Below W.heap.size W w') := fun W => text_any _ W
  clear hz hz16 HT q0 q1 qm
  refine wp_region_held_drew (S := fun W => S87 w W w.heap.size g gc key (lenF m.size b.size)) (by kernel_rfl) S2.drew (fun hHeld => ?_)
  clear S2
  refine wpAnyH_take (i := 0) (v := ?v1) rfl (by kernel_rfl) (by kernel_rfl) (by kernel_rfl) (fun _ _ _ h => h) (Or.inl ⟨by rfl, ?y1⟩) (by assumption) ?r1
  case y1 => (intro W hW; go_simp; try with_reducible rfl)
  refine wpAnyH_take (i := 1) (v := ?v2) rfl (by kernel_rfl) (by kernel_rfl) (by kernel_rfl) (fun _ _ _ h => h) (Or.inl ⟨by rfl, ?y2⟩) (by assumption) ?r2
  case y2 => (intro W hW; go_simp; try with_reducible rfl)
  refine wpAnyH_take (i := 2) (v := ?v3) rfl (by kernel_rfl) (by kernel_rfl) (by kernel_rfl) (fun _ _ _ h => h) (Or.inl ⟨by rfl, ?y3⟩) (by assumption) ?r3
  case y3 => (intro W hW; go_simp; try with_reducible rfl)
  refine wpAnyH_take (i := 3) (v := ?v4) rfl (by kernel_rfl) (by kernel_rfl) (by kernel_rfl) (fun _ _ _ h => h) (Or.inl ⟨by rfl, ?y4⟩) (by assumption) ?r4
  case y4 => (intro W hW; have q1 := heap_pos (S87.r1 hW); have qm := heap_pos (Mod.r (S87.m hW)); go_simp; try with_reducible rfl)
  refine wpAnyH_take (i := 4) (v := ?v5) rfl (by kernel_rfl) (by kernel_rfl) (by kernel_rfl) (fun _ _ _ h => h) (Or.inl ⟨by rfl, ?y5⟩) (by assumption) ?r5
  case y5 => (intro W hW; go_simp; try with_reducible rfl)
  refine wpAnyH_take (i := 6) (v := ?v6) rfl (by kernel_rfl) (by kernel_rfl) (by kernel_rfl) (fun _ _ _ h => h) (Or.inl ⟨by rfl, ?y6⟩) (by assumption) ?r6
  case y6 => (intro W hW; go_simp; try with_reducible rfl)
  refine wpAnyH_take (i := 9) (v := ?v7) rfl (by kernel_rfl) (by kernel_rfl) (by kernel_rfl) (fun _ _ _ h => h) (Or.inl ⟨by rfl, ?y7⟩) (by assumption) ?r7
  case y7 => (intro W hW; have q1 := heap_pos (S87.r1 hW); have qm := heap_pos (Mod.r (S87.m hW)); go_simp; try with_reducible rfl)
  refine wpAnyH_ready (rs := [5, 16]) (by kernel_rfl) (by simp) ?_
  refine AllReadyH.cons rfl (fun K hK => ?_) ?_
  · go_simp
    refine (padded_any _ (by assumption) _).mono ?_
    rintro e wa ⟨rfl, ba⟩
    have S2 := S87.keep hHeld ba
    clear ba hHeld
    go_wp2_with fail
    refine hK.out _ _ S2 (fun hHeld => ?_)
    clear hK K S2
    refine wpAnyH_ready (rs := [7, 16]) (by kernel_rfl) (by simp) ?_
    refine AllReadyH.cons rfl (fun K hK => ?_) ?_
    · go_simp
      refine (padded_any _ (by assumption) _).mono ?_
      rintro e wa ⟨rfl, ba⟩
      have S2 := S87.keep hHeld ba
      clear ba hHeld
      go_wp2_with fail
      refine hK.out _ _ S2 (fun hHeld => ?_)
      clear hK K S2
      refine wpAnyH_take (i := 8) (v := ?v8) rfl (by kernel_rfl) (by kernel_rfl) (by kernel_rfl) (fun _ _ _ h => h) (Or.inl ⟨by rfl, ?y8⟩) (by assumption) ?r8
      case y8 => (intro W hW; go_simp; rw [if_neg (by omega)])
      refine wpAnyH_ready (rs := [10, 16]) (by kernel_rfl) (by simp) ?_
      refine AllReadyH.cons rfl (fun K hK => ?_) ?_
      · go_simp
        refine (HX.out _).mono ?_
        rintro e wa ⟨rfl, ba⟩
        have S2 := S87.keep hHeld ba
        clear ba hHeld
        go_wp2_with fail
        refine hK.out _ _ S2 (fun hHeld => ?_)
        clear hK K S2
        refine wpAnyH_take (i := 11) (v := ?v9) rfl (by kernel_rfl) (by kernel_rfl) (by kernel_rfl) (fun _ _ _ h => h) (Or.inl ⟨by rfl, ?y9⟩) (by assumption) ?r9
        case y9 => (intro W hW; go_simp; rw [if_neg (by omega)])
        refine wpAnyH_ready (rs := [12, 16]) (by kernel_rfl) (by simp) ?_
        refine AllReadyH.cons rfl (fun K hK => ?_) ?_
        · go_simp
          refine (HH.out _).mono ?_
          rintro e wa ⟨rfl, ba⟩
          have S2 := S87.keep hHeld ba
          clear ba hHeld
          go_wp2_with fail
          refine hK.out _ _ S2 (fun hHeld => ?_)
          clear hK K S2
          refine wpAnyH_take (i := 13) (v := ?v10) rfl (by kernel_rfl) (by kernel_rfl) (by kernel_rfl) (fun _ _ _ h => h) (Or.inl ⟨by rfl, ?y10⟩) (by assumption) ?r10
          case y10 => (intro W hW; go_simp; try with_reducible rfl)
          refine wpAnyH_take (i := 14) (v := ?v11) rfl (by kernel_rfl) (by kernel_rfl) (by kernel_rfl) (fun _ _ _ h => h) (Or.inl ⟨by rfl, ?y11⟩) (by assumption) ?r11
          case y11 => (intro W hW; go_simp; try with_reducible rfl)
          refine wpAnyH_take (i := 15) (v := ?v12) rfl (by kernel_rfl) (by kernel_rfl) (by kernel_rfl) (fun _ _ _ h => h) (Or.inl ⟨by rfl, ?y12⟩) (by assumption) ?r12
          case y12 => (intro W hW; go_simp; try with_reducible rfl)
          refine wpAnyH_ready (rs := [16]) (by kernel_rfl) (by simp) ?_
          refine AllReadyH.cons rfl (fun K hK => ?_) ?_
          · go_simp
            have S3 := S87.new hHeld
            refine hK.out _ _ S3.s (fun hHeld => ?_)
            clear hK K
            refine wpAnyH_ready (rs := [17]) (by kernel_rfl) (by simp) ?_
            refine AllReadyH.cons rfl (fun K hK => ?_) ?_
            · have qn := heap_pos S3.rn
              go_simp
              refine hK.out _ _ S3.set (fun hHeld => ?_)
              have rS := S3.rn.setRow (V' := by8 (hashF key m b))
              have lS := S3.la
              clear hK K S3 qn
              refine wpAnyH_take (i := 18) (v := ?v13) rfl (by kernel_rfl) (by kernel_rfl) (by kernel_rfl) (fun _ _ _ h => h) (Or.inl ⟨by rfl, ?y13⟩) (by assumption) ?r13
              case y13 => (intro W hW; go_simp; try with_reducible rfl)
              refine wpAnyH_done (by kernel_rfl) ?_ _
              have q0 := heap_pos (S87.r0 hHeld)
              have q9 := heap_pos rS
              go_wp2
              refine bodyPost_ret (res40 Tryz.results139 _ _ w.heap.size _ rfl (Row.setRow (S87.r0 hHeld))) rfl ⟨rfl, ?_⟩
              exact Below.setRow (S87.b hHeld) (Nat.le_refl _) _
            exact AllReadyH.nil
          exact AllReadyH.nil
        refine AllReadyH.cons rfl (fun K hK => ?_) ?_
        · go_simp
          have S3 := S87.new hHeld
          refine hK.out _ _ S3.s (fun hHeld => ?_)
          clear hK K
          refine wpAnyH_ready (rs := [12]) (by kernel_rfl) (by simp) ?_
          refine AllReadyH.cons rfl (fun K hK => ?_) ?_
          · go_simp
            refine (HH.out _).mono ?_
            rintro e wa ⟨rfl, ba⟩
            have S4 := S3.keep ba
            clear S3
            have S3 := S4
            clear S4
            have S2 := S3.s
            clear ba hHeld
            go_wp2_with fail
            refine hK.out _ _ S2 (fun hHeld => ?_)
            clear hK K S2
            refine wpAnyH_take (i := 13) (v := ?v14) rfl (by kernel_rfl) (by kernel_rfl) (by kernel_rfl) (fun _ _ _ h => h) (Or.inl ⟨by rfl, ?y14⟩) (by assumption) ?r14
            case y14 => (intro W hW; go_simp; try with_reducible rfl)
            refine wpAnyH_take (i := 14) (v := ?v15) rfl (by kernel_rfl) (by kernel_rfl) (by kernel_rfl) (fun _ _ _ h => h) (Or.inl ⟨by rfl, ?y15⟩) (by assumption) ?r15
            case y15 => (intro W hW; go_simp; try with_reducible rfl)
            refine wpAnyH_take (i := 15) (v := ?v16) rfl (by kernel_rfl) (by kernel_rfl) (by kernel_rfl) (fun _ _ _ h => h) (Or.inl ⟨by rfl, ?y16⟩) (by assumption) ?r16
            case y16 => (intro W hW; go_simp; try with_reducible rfl)
            refine wpAnyH_ready (rs := [17]) (by kernel_rfl) (by simp) ?_
            refine AllReadyH.cons rfl (fun K hK => ?_) ?_
            · have qn := heap_pos S3.rn
              go_simp
              refine hK.out _ _ S3.set (fun hHeld => ?_)
              have rS := S3.rn.setRow (V' := by8 (hashF key m b))
              have lS := S3.la
              clear hK K S3 qn
              refine wpAnyH_take (i := 18) (v := ?v17) rfl (by kernel_rfl) (by kernel_rfl) (by kernel_rfl) (fun _ _ _ h => h) (Or.inl ⟨by rfl, ?y17⟩) (by assumption) ?r17
              case y17 => (intro W hW; go_simp; try with_reducible rfl)
              refine wpAnyH_done (by kernel_rfl) ?_ _
              have q0 := heap_pos (S87.r0 hHeld)
              have q9 := heap_pos rS
              go_wp2
              refine bodyPost_ret (res40 Tryz.results139 _ _ w.heap.size _ rfl (Row.setRow (S87.r0 hHeld))) rfl ⟨rfl, ?_⟩
              exact Below.setRow (S87.b hHeld) (Nat.le_refl _) _
            exact AllReadyH.nil
          exact AllReadyH.nil
        exact AllReadyH.nil
      refine AllReadyH.cons rfl (fun K hK => ?_) ?_
      · go_simp
        have S3 := S87.new hHeld
        refine hK.out _ _ S3.s (fun hHeld => ?_)
        clear hK K
        refine wpAnyH_ready (rs := [10]) (by kernel_rfl) (by simp) ?_
        refine AllReadyH.cons rfl (fun K hK => ?_) ?_
        · go_simp
          refine (HX.out _).mono ?_
          rintro e wa ⟨rfl, ba⟩
          have S4 := S3.keep ba
          clear S3
          have S3 := S4
          clear S4
          have S2 := S3.s
          clear ba hHeld
          go_wp2_with fail
          refine hK.out _ _ S2 (fun hHeld => ?_)
          clear hK K S2
          refine wpAnyH_take (i := 11) (v := ?v18) rfl (by kernel_rfl) (by kernel_rfl) (by kernel_rfl) (fun _ _ _ h => h) (Or.inl ⟨by rfl, ?y18⟩) (by assumption) ?r18
          case y18 => (intro W hW; go_simp; rw [if_neg (by omega)])
          refine wpAnyH_ready (rs := [12]) (by kernel_rfl) (by simp) ?_
          refine AllReadyH.cons rfl (fun K hK => ?_) ?_
          · go_simp
            refine (HH.out _).mono ?_
            rintro e wa ⟨rfl, ba⟩
            have S4 := S3.keep ba
            clear S3
            have S3 := S4
            clear S4
            have S2 := S3.s
            clear ba hHeld
            go_wp2_with fail
            refine hK.out _ _ S2 (fun hHeld => ?_)
            clear hK K S2
            refine wpAnyH_take (i := 13) (v := ?v19) rfl (by kernel_rfl) (by kernel_rfl) (by kernel_rfl) (fun _ _ _ h => h) (Or.inl ⟨by rfl, ?y19⟩) (by assumption) ?r19
            case y19 => (intro W hW; go_simp; try with_reducible rfl)
            refine wpAnyH_take (i := 14) (v := ?v20) rfl (by kernel_rfl) (by kernel_rfl) (by kernel_rfl) (fun _ _ _ h => h) (Or.inl ⟨by rfl, ?y20⟩) (by assumption) ?r20
            case y20 => (intro W hW; go_simp; try with_reducible rfl)
            refine wpAnyH_take (i := 15) (v := ?v21) rfl (by kernel_rfl) (by kernel_rfl) (by kernel_rfl) (fun _ _ _ h => h) (Or.inl ⟨by rfl, ?y21⟩) (by assumption) ?r21
            case y21 => (intro W hW; go_simp; try with_reducible rfl)
            refine wpAnyH_ready (rs := [17]) (by kernel_rfl) (by simp) ?_
            refine AllReadyH.cons rfl (fun K hK => ?_) ?_
            · have qn := heap_pos S3.rn
              go_simp
              refine hK.out _ _ S3.set (fun hHeld => ?_)
              have rS := S3.rn.setRow (V' := by8 (hashF key m b))
              have lS := S3.la
              clear hK K S3 qn
              refine wpAnyH_take (i := 18) (v := ?v22) rfl (by kernel_rfl) (by kernel_rfl) (by kernel_rfl) (fun _ _ _ h => h) (Or.inl ⟨by rfl, ?y22⟩) (by assumption) ?r22
              case y22 => (intro W hW; go_simp; try with_reducible rfl)
              refine wpAnyH_done (by kernel_rfl) ?_ _
              have q0 := heap_pos (S87.r0 hHeld)
              have q9 := heap_pos rS
              go_wp2
              refine bodyPost_ret (res40 Tryz.results139 _ _ w.heap.size _ rfl (Row.setRow (S87.r0 hHeld))) rfl ⟨rfl, ?_⟩
              exact Below.setRow (S87.b hHeld) (Nat.le_refl _) _
            exact AllReadyH.nil
          exact AllReadyH.nil
        exact AllReadyH.nil
      exact AllReadyH.nil
    refine AllReadyH.cons rfl (fun K hK => ?_) ?_
    · go_simp
      have S3 := S87.new hHeld
      refine hK.out _ _ S3.s (fun hHeld => ?_)
      clear hK K
      refine wpAnyH_ready (rs := [7]) (by kernel_rfl) (by simp) ?_
      refine AllReadyH.cons rfl (fun K hK => ?_) ?_
      · go_simp
        refine (padded_any _ (by assumption) _).mono ?_
        rintro e wa ⟨rfl, ba⟩
        have S4 := S3.keep ba
        clear S3
        have S3 := S4
        clear S4
        have S2 := S3.s
        clear ba hHeld
        go_wp2_with fail
        refine hK.out _ _ S2 (fun hHeld => ?_)
        clear hK K S2
        refine wpAnyH_take (i := 8) (v := ?v23) rfl (by kernel_rfl) (by kernel_rfl) (by kernel_rfl) (fun _ _ _ h => h) (Or.inl ⟨by rfl, ?y23⟩) (by assumption) ?r23
        case y23 => (intro W hW; go_simp; rw [if_neg (by omega)])
        refine wpAnyH_ready (rs := [10]) (by kernel_rfl) (by simp) ?_
        refine AllReadyH.cons rfl (fun K hK => ?_) ?_
        · go_simp
          refine (HX.out _).mono ?_
          rintro e wa ⟨rfl, ba⟩
          have S4 := S3.keep ba
          clear S3
          have S3 := S4
          clear S4
          have S2 := S3.s
          clear ba hHeld
          go_wp2_with fail
          refine hK.out _ _ S2 (fun hHeld => ?_)
          clear hK K S2
          refine wpAnyH_take (i := 11) (v := ?v24) rfl (by kernel_rfl) (by kernel_rfl) (by kernel_rfl) (fun _ _ _ h => h) (Or.inl ⟨by rfl, ?y24⟩) (by assumption) ?r24
          case y24 => (intro W hW; go_simp; rw [if_neg (by omega)])
          refine wpAnyH_ready (rs := [12]) (by kernel_rfl) (by simp) ?_
          refine AllReadyH.cons rfl (fun K hK => ?_) ?_
          · go_simp
            refine (HH.out _).mono ?_
            rintro e wa ⟨rfl, ba⟩
            have S4 := S3.keep ba
            clear S3
            have S3 := S4
            clear S4
            have S2 := S3.s
            clear ba hHeld
            go_wp2_with fail
            refine hK.out _ _ S2 (fun hHeld => ?_)
            clear hK K S2
            refine wpAnyH_take (i := 13) (v := ?v25) rfl (by kernel_rfl) (by kernel_rfl) (by kernel_rfl) (fun _ _ _ h => h) (Or.inl ⟨by rfl, ?y25⟩) (by assumption) ?r25
            case y25 => (intro W hW; go_simp; try with_reducible rfl)
            refine wpAnyH_take (i := 14) (v := ?v26) rfl (by kernel_rfl) (by kernel_rfl) (by kernel_rfl) (fun _ _ _ h => h) (Or.inl ⟨by rfl, ?y26⟩) (by assumption) ?r26
            case y26 => (intro W hW; go_simp; try with_reducible rfl)
            refine wpAnyH_take (i := 15) (v := ?v27) rfl (by kernel_rfl) (by kernel_rfl) (by kernel_rfl) (fun _ _ _ h => h) (Or.inl ⟨by rfl, ?y27⟩) (by assumption) ?r27
            case y27 => (intro W hW; go_simp; try with_reducible rfl)
            refine wpAnyH_ready (rs := [17]) (by kernel_rfl) (by simp) ?_
            refine AllReadyH.cons rfl (fun K hK => ?_) ?_
            · have qn := heap_pos S3.rn
              go_simp
              refine hK.out _ _ S3.set (fun hHeld => ?_)
              have rS := S3.rn.setRow (V' := by8 (hashF key m b))
              have lS := S3.la
              clear hK K S3 qn
              refine wpAnyH_take (i := 18) (v := ?v28) rfl (by kernel_rfl) (by kernel_rfl) (by kernel_rfl) (fun _ _ _ h => h) (Or.inl ⟨by rfl, ?y28⟩) (by assumption) ?r28
              case y28 => (intro W hW; go_simp; try with_reducible rfl)
              refine wpAnyH_done (by kernel_rfl) ?_ _
              have q0 := heap_pos (S87.r0 hHeld)
              have q9 := heap_pos rS
              go_wp2
              refine bodyPost_ret (res40 Tryz.results139 _ _ w.heap.size _ rfl (Row.setRow (S87.r0 hHeld))) rfl ⟨rfl, ?_⟩
              exact Below.setRow (S87.b hHeld) (Nat.le_refl _) _
            exact AllReadyH.nil
          exact AllReadyH.nil
        exact AllReadyH.nil
      exact AllReadyH.nil
    exact AllReadyH.nil
  refine AllReadyH.cons rfl (fun K hK => ?_) ?_
  · go_simp
    have S3 : S87n w _ w.heap.size g gc w2.heap.size key _ := S87.new (w := w2.drew) hHeld
    refine hK.out _ _ S3.s (fun hHeld => ?_)
    clear hK K
    refine wpAnyH_ready (rs := [5]) (by kernel_rfl) (by simp) ?_
    refine AllReadyH.cons rfl (fun K hK => ?_) ?_
    · go_simp
      refine (padded_any _ (by assumption) _).mono ?_
      rintro e wa ⟨rfl, ba⟩
      have S4 := S3.keep ba
      clear S3
      have S3 := S4
      clear S4
      have S2 := S3.s
      clear ba hHeld
      go_wp2_with fail
      refine hK.out _ _ S2 (fun hHeld => ?_)
      clear hK K S2
      refine wpAnyH_ready (rs := [7]) (by kernel_rfl) (by simp) ?_
      refine AllReadyH.cons rfl (fun K hK => ?_) ?_
      · go_simp
        refine (padded_any _ (by assumption) _).mono ?_
        rintro e wa ⟨rfl, ba⟩
        have S4 := S3.keep ba
        clear S3
        have S3 := S4
        clear S4
        have S2 := S3.s
        clear ba hHeld
        go_wp2_with fail
        refine hK.out _ _ S2 (fun hHeld => ?_)
        clear hK K S2
        refine wpAnyH_take (i := 8) (v := ?v29) rfl (by kernel_rfl) (by kernel_rfl) (by kernel_rfl) (fun _ _ _ h => h) (Or.inl ⟨by rfl, ?y29⟩) (by assumption) ?r29
        case y29 => (intro W hW; go_simp; rw [if_neg (by omega)])
        refine wpAnyH_ready (rs := [10]) (by kernel_rfl) (by simp) ?_
        refine AllReadyH.cons rfl (fun K hK => ?_) ?_
        · go_simp
          refine (HX.out _).mono ?_
          rintro e wa ⟨rfl, ba⟩
          have S4 := S3.keep ba
          clear S3
          have S3 := S4
          clear S4
          have S2 := S3.s
          clear ba hHeld
          go_wp2_with fail
          refine hK.out _ _ S2 (fun hHeld => ?_)
          clear hK K S2
          refine wpAnyH_take (i := 11) (v := ?v30) rfl (by kernel_rfl) (by kernel_rfl) (by kernel_rfl) (fun _ _ _ h => h) (Or.inl ⟨by rfl, ?y30⟩) (by assumption) ?r30
          case y30 => (intro W hW; go_simp; rw [if_neg (by omega)])
          refine wpAnyH_ready (rs := [12]) (by kernel_rfl) (by simp) ?_
          refine AllReadyH.cons rfl (fun K hK => ?_) ?_
          · go_simp
            refine (HH.out _).mono ?_
            rintro e wa ⟨rfl, ba⟩
            have S4 := S3.keep ba
            clear S3
            have S3 := S4
            clear S4
            have S2 := S3.s
            clear ba hHeld
            go_wp2_with fail
            refine hK.out _ _ S2 (fun hHeld => ?_)
            clear hK K S2
            refine wpAnyH_take (i := 13) (v := ?v31) rfl (by kernel_rfl) (by kernel_rfl) (by kernel_rfl) (fun _ _ _ h => h) (Or.inl ⟨by rfl, ?y31⟩) (by assumption) ?r31
            case y31 => (intro W hW; go_simp; try with_reducible rfl)
            refine wpAnyH_take (i := 14) (v := ?v32) rfl (by kernel_rfl) (by kernel_rfl) (by kernel_rfl) (fun _ _ _ h => h) (Or.inl ⟨by rfl, ?y32⟩) (by assumption) ?r32
            case y32 => (intro W hW; go_simp; try with_reducible rfl)
            refine wpAnyH_take (i := 15) (v := ?v33) rfl (by kernel_rfl) (by kernel_rfl) (by kernel_rfl) (fun _ _ _ h => h) (Or.inl ⟨by rfl, ?y33⟩) (by assumption) ?r33
            case y33 => (intro W hW; go_simp; try with_reducible rfl)
            refine wpAnyH_ready (rs := [17]) (by kernel_rfl) (by simp) ?_
            refine AllReadyH.cons rfl (fun K hK => ?_) ?_
            · have qn := heap_pos S3.rn
              go_simp
              refine hK.out _ _ S3.set (fun hHeld => ?_)
              have rS := S3.rn.setRow (V' := by8 (hashF key m b))
              have lS := S3.la
              clear hK K S3 qn
              refine wpAnyH_take (i := 18) (v := ?v34) rfl (by kernel_rfl) (by kernel_rfl) (by kernel_rfl) (fun _ _ _ h => h) (Or.inl ⟨by rfl, ?y34⟩) (by assumption) ?r34
              case y34 => (intro W hW; go_simp; try with_reducible rfl)
              refine wpAnyH_done (by kernel_rfl) ?_ _
              have q0 := heap_pos (S87.r0 hHeld)
              have q9 := heap_pos rS
              go_wp2
              refine bodyPost_ret (res40 Tryz.results139 _ _ w.heap.size _ rfl (Row.setRow (S87.r0 hHeld))) rfl ⟨rfl, ?_⟩
              exact Below.setRow (S87.b hHeld) (Nat.le_refl _) _
            exact AllReadyH.nil
          exact AllReadyH.nil
        exact AllReadyH.nil
      exact AllReadyH.nil
    exact AllReadyH.nil
  exact AllReadyH.nil
end Go.Proofs.YtgalgjmhdbncbaaGreat
