import Derived.Test.YtgalgjmhdbncbabGreatZb00
import Derived.Test.YtgalgjmhdbncbabGreatZb11
import Derived.Deep.RegionHeld
namespace Go.Proofs.YtgalgjmhdbncbabGreat
open Go.RowKit
attribute [local go_sem ↓] Go.wp_at_zero Go.wp_at_succ
attribute [local go_sem ↓] ldw40 stw40 al40 bd40 bd117
attribute [local go_sem] run_ldT40 ldN_row run_stT40 stN_row stN_z run_al40 run_bd40 run_bd117
attribute [local go_sem] blk_new blk_at blk_old blk_drew blk_setCell blk_setRow

def lenF (a b : Nat) : Nat → UInt8 := putF (putF (fun _ => 0) 0 8 (8 * a)) 8 8 (8 * b)
theorem len_cat (a b : Nat) : str 16 (lenF a b) = numT (8 * a) 8 ++ numT (8 * b) 8 := by
  apply bytes_ext
  · rw [str_size, ByteArray.size_append, numT_size, numT_size]
  · intro j hj
    rw [str_size] at hj
    rw [sf_str _ _ _ hj, sf_append, numT_size]
    unfold lenF putF
    by_cases h : j < 8
    · rw [if_neg (by omega), if_pos (by omega), if_pos h]
      exact (sf_str _ _ _ h).symm
    · rw [if_pos (by omega), if_neg h]
      exact (sf_str _ _ _ (by omega)).symm
theorem tagT_cat (m b : ByteArray) : padT m ++ padT b ++ str 16 (lenF m.size b.size) = tagT m b := by
  rw [len_cat]
  unfold tagT
  exact ByteArray.append_assoc.symm
def hashF (key m b : ByteArray) : Nat → UInt8 := hashN (hK key) (sf (tagT m b)) ((tagT m b).size / 16)

structure S87 (w0 w : World) (n g gc : Nat) (key : ByteArray) (l : Nat → UInt8) : Prop where
  m : Mod w g gc key
  r0 : Row w n 16 141 z8
  r1 : Row w (n + 1) 16 141 (by8 l)
  lg : g < n
  lc : gc < n
  b : Below n w0 w
theorem S87.drew {w0 w : World} {n g gc : Nat} {key : ByteArray} {l : Nat → UInt8} (h : S87 w0 w n g gc key l) : S87 w0 w.drew n g gc key l := ⟨h.m.drew, h.r0, h.r1, h.lg, h.lc, h.b.drew⟩
theorem S87.keep {w0 w w1 : World} {n g gc : Nat} {key : ByteArray} {l : Nat → UInt8} (h : S87 w0 w n g gc key l) (hb : Below w.heap.size w w1) : S87 w0 w1 n g gc key l :=
  ⟨h.m.keep hb, h.r0.keep hb h.r0.lt, h.r1.keep hb h.r1.lt, h.lg, h.lc, h.b.trans (hb.mono (Nat.le_of_lt h.r0.lt))⟩
theorem S87.put {w0 w w1 : World} {n g gc : Nat} {key : ByteArray} {l l' : Nat → UInt8} (h : S87 w0 w n g gc key l) (hc : Chg (n + 1) w w1) (hr : Row w1 (n + 1) 16 141 (by8 l')) : S87 w0 w1 n g gc key l' :=
  ⟨⟨h.m.r.chg hc (by have := h.lg; omega), Row.chg h.m.c hc (by have := h.lc; omega)⟩, h.r0.chg hc (by omega), hr, h.lg, h.lc, Below.chg h.b hc (by omega)⟩
theorem S87.alloc {w0 w : World} {n g gc : Nat} {key : ByteArray} {l : Nat → UInt8} (h : S87 w0 w n g gc key l) (o : Obj) : S87 w0 (w.alloc o) n g gc key l :=
  ⟨h.m.alloc o, h.r0.alloc o, h.r1.alloc o, h.lg, h.lc, h.b.alloc (Nat.le_of_lt h.r0.lt) o⟩
structure S87n (w0 w : World) (n g gc a : Nat) (key : ByteArray) (l : Nat → UInt8) : Prop where
  s : S87 w0 w n g gc key l
  rn : Row w a 16 141 z8
  la : n + 1 < a
theorem S87.new {w0 w : World} {n g gc : Nat} {key : ByteArray} {l : Nat → UInt8} (h : S87 w0 w n g gc key l) : S87n w0 (w.alloc (.cells (arr 16 z8) 141)) n g gc w.heap.size key l :=
  ⟨h.alloc _, Row.new _ _ _ _ _ rfl, h.r1.lt⟩
theorem S87.newd {w0 w : World} {n g gc : Nat} {key : ByteArray} {l : Nat → UInt8} (h : S87 w0 w n g gc key l) : S87n w0 (w.drew.alloc (.cells (arr 16 z8) 141)) n g gc w.heap.size key l :=
  ⟨h.drew.alloc _, Row.new _ _ _ _ _ rfl, h.r1.lt⟩
theorem S87.newe {w0 w : World} {n g gc : Nat} {key : ByteArray} {l : Nat → UInt8} (h : S87 w0 w n g gc key l) : S87n w0 (w.alloc (.cells (arr 16 z8) 141)).drew n g gc w.heap.size key l :=
  ⟨(h.alloc _).drew, (Row.new _ _ _ _ _ rfl).drew, h.r1.lt⟩
theorem S87n.keep {w0 w w1 : World} {n g gc a : Nat} {key : ByteArray} {l : Nat → UInt8} (h : S87n w0 w n g gc a key l) (hb : Below w.heap.size w w1) : S87n w0 w1 n g gc a key l := ⟨h.s.keep hb, h.rn.keep hb h.rn.lt, h.la⟩
theorem S87n.drew {w0 w : World} {n g gc a : Nat} {key : ByteArray} {l : Nat → UInt8} (h : S87n w0 w n g gc a key l) : S87n w0 w.drew n g gc a key l := ⟨h.s.drew, h.rn, h.la⟩
theorem S87n.set {w0 w : World} {n g gc a : Nat} {key : ByteArray} {l : Nat → UInt8} {cs : Array Value} (h : S87n w0 w n g gc a key l) : S87 w0 (w.setRow a cs) n g gc key l :=
  have hc := Chg.setRow w a cs
  ⟨⟨h.s.m.r.chg hc (by have := h.s.lg; have := h.la; omega), Row.chg h.s.m.c hc (by have := h.s.lc; have := h.la; omega)⟩, h.s.r0.chg hc (by have := h.la; omega), h.s.r1.chg hc (by have := h.la; omega), h.s.lg, h.s.lc, Below.chg h.s.b hc (by have := h.la; omega)⟩
theorem ld_h (gc : Nat) (h : Nat → UInt8) (w : World) (r : Result Value) : ldN (some (.cells (arr 17 (modeV gc h)) 196 (0, 0))) 1 16 w r = .ok (.agg (arr 16 (by8 h))) w := by
  rw [ldN_mid _ _ _ _ _ _ _ (by omega)]
  congr 2
attribute [local go_sem] ld_h

set_option maxRecDepth 100000 in
set_option maxHeartbeats 4000000 in
theorem ghash_any (g gc : Nat) (key m b : ByteArray) (hm : m.size ≤ 300) (hb : b.size ≤ 300) (w : World) (hM : Mod w g gc key) :
    Calls Tryz.prog 136 #[.pointer (some ⟨g, 0, none⟩), .string m, .string b] w fun e w' => e = .returned (.agg (arr 16 (by8 (hashF key m b)))) ∧ Below w.heap.size w w' := by
  have hlt := hM.lt
  have hp1 := fun w' hr => put_any (w.heap.size + 1) 0 8 16 16 141 (fun _ => 0) (8 * m.size) (by omega) (by omega) (by omega) w' hr
  have hp2 := fun w' hr => put_any (w.heap.size + 1) 8 8 8 16 141 (putF (fun _ => 0) 0 8 (8 * m.size)) (8 * b.size) (by omega) (by omega) (by omega) w' hr
  rw [show ((8 * m.size : Nat) : Int) = 8 * (m.size : Int) by omega] at hp1
  rw [show ((8 * b.size : Nat) : Int) = 8 * (b.size : Int) by omega] at hp2
  have HP1 : Hid _ := hp1
  have HP2 : Hid _ := hp2
  clear hp1 hp2
  have S0 : S87 w ((w.alloc (.cells (arr 16 z8) 141)).alloc (.cells (arr 16 z8) 141)) w.heap.size g gc key (fun _ => 0) :=
    ⟨(hM.alloc _).alloc _, (Row.new _ _ _ _ _ rfl).alloc _, Row.new _ _ _ _ _ (by simp), hlt.1, hlt.2, ((Below.refl _ _).alloc (Nat.le_refl _) _).alloc (by simp) _⟩
  have HS : Hid _ := S0
  clear S0 hM
  go_enter Tryz.func136, Tryz.ntmps136
  go_wp2_with fail
  refine (HP1.out _ (S87.r1 HS.out)).mono ?_
  rintro e w1 ⟨rfl, hc1, hr1⟩
  have S1 := S87.put HS.out hc1 hr1
  clear HS hc1 hr1 HP1
  go_wp2_with fail
  refine (HP2.out _ S1.r1).mono ?_
  rintro e w2 ⟨rfl, hc2, hr2⟩
  have S2 : S87 w w2 w.heap.size g gc key (lenF m.size b.size) := S87.put S1 hc2 hr2
  clear S1 hc2 hr2 HP2
  go_wp2_with fail
  have q1 := heap_pos S2.r1
  have qm := heap_pos S2.m.r
  have q0 := heap_pos S2.r0
  have l0 : w.heap.size + 1 < w2.heap.size := S2.r1.lt
  have hm1 : m.size ≤ 1000 := by omega
  have hb1 : b.size ≤ 1000 := by omega
  have zm := padT_size m
  have zb := padT_size b
  have ym := up16_up m.size
  have yb := up16_up b.size
  have zt := str_size 16 (lenF m.size b.size)
  have zmb : (padT m ++ padT b).size = up16 m.size + up16 b.size := by rw [ByteArray.size_append, zm, zb]
  have HT : Hid _ := tagT_cat m b
  have hz : (tagT m b).size ≤ maxLen := by rw [tagT_size]; unfold maxLen; omega
  have hz16 : (tagT m b).size % 16 = 0 := by rw [tagT_size]; have := up16_mod m.size; have := up16_mod b.size; omega
  have HH : Hid (∀ W, Calls Tryz.prog 83 #[.agg (arr 16 (by8 (hK key))), .string (padT m ++ padT b ++ str 16 (lenF m.size b.size))] W fun e w' => e = .returned (.tuple #[.agg (arr 16 (by8 (hashF key m b))), .bool true]) ∧ Below W.heap.size W w') := by
    intro W
    rw [HT.out]
    exact bhash_yes _ _ W hz hz16
  have HX : Hid (∀ W, Calls Tryz.prog 81 #[.agg (arr 16 (by8 (lenF m.size b.size)))] W fun e w' => e = .returned (.string (str 16 (lenF m.size b.size))) ∧ Below W.heap.size W w') := fun W => text_any _ W
  clear hz hz16 HT q0 q1 qm
  refine wp_region_held_drew (S := fun W => S87 w W w.heap.size g gc key (lenF m.size b.size)) (by kernel_rfl) S2.drew (fun hHeld => ?_)
  clear S2
  refine tp 0 _ ?r1
  refine tp 1 _ ?r2
  refine tp 2 _ ?r3
  refine tk 3 ?v4 ?y4 ?r4
  case y4 => (intro W hW; have q1 := heap_pos (S87.r1 hW); have qm := heap_pos (Mod.r (S87.m hW)); go_simp; try with_reducible rfl)
  refine tp 4 _ ?r5
  refine tp 6 _ ?r6
  refine tk 9 ?v7 ?y7 ?r7
  case y7 => (intro W hW; have q1 := heap_pos (S87.r1 hW); have qm := heap_pos (Mod.r (S87.m hW)); go_simp; try with_reducible rfl)
  refine wpAnyH_ready (rs := [5, 16]) (by kernel_rfl) (by simp) ?_
  refine AllReadyH.cons rfl (fun K hK => ?_) ?_
  · go_simp
    refine (padded_any _ (by assumption) _).mono ?_
    rintro e wa ⟨rfl, ba⟩
    have S2 := S87.keep hHeld ba
    clear ba hHeld
    go_wp2_with fail
    refine hK.out _ _ S2 (fun hHeld => ?_)
    clear hK K S2
    refine wpAnyH_ready (rs := [7, 16]) (by kernel_rfl) (by simp) ?_
    refine AllReadyH.cons rfl (fun K hK => ?_) ?_
    · go_simp
      refine (padded_any _ (by assumption) _).mono ?_
      rintro e wa ⟨rfl, ba⟩
      have S2 := S87.keep hHeld ba
      clear ba hHeld
      go_wp2_with fail
      refine hK.out _ _ S2 (fun hHeld => ?_)
      clear hK K S2
      refine tk 8 ?v8 ?y8 ?r8
      case y8 => (intro W hW; go_simp; rw [if_neg (by omega)])
      refine wpAnyH_ready (rs := [10, 16]) (by kernel_rfl) (by simp) ?_
      refine AllReadyH.cons rfl (fun K hK => ?_) ?_
      · go_simp
        refine (HX.out _).mono ?_
        rintro e wa ⟨rfl, ba⟩
        have S2 := S87.keep hHeld ba
        clear ba hHeld
        go_wp2_with fail
        refine hK.out _ _ S2 (fun hHeld => ?_)
        clear hK K S2
        refine tk 11 ?v9 ?y9 ?r9
        case y9 => (intro W hW; go_simp; rw [if_neg (by omega)])
        refine wpAnyH_ready (rs := [12, 16]) (by kernel_rfl) (by simp) ?_
        refine AllReadyH.cons rfl (fun K hK => ?_) ?_
        · go_simp
          refine (HH.out _).mono ?_
          rintro e wa ⟨rfl, ba⟩
          have S2 := S87.keep hHeld ba
          clear ba hHeld
          go_wp2_with fail
          refine hK.out _ _ S2 (fun hHeld => ?_)
          clear hK K S2
          refine tp 13 _ ?r10
          refine tp 14 _ ?r11
          refine tp 15 _ ?r12
          refine wpAnyH_ready (rs := [16]) (by kernel_rfl) (by simp) ?_
          refine AllReadyH.cons rfl (fun K hK => ?_) ?_
          · go_simp
            have S3 := S87.new hHeld
            refine hK.out _ _ S3.s (fun hHeld => ?_)
            clear hK K
            refine wpAnyH_ready (rs := [17]) (by kernel_rfl) (by simp) ?_
            refine AllReadyH.cons rfl (fun K hK => ?_) ?_
            · have qn := heap_pos S3.rn
              go_simp
              refine hK.out _ _ S3.set (fun hHeld => ?_)
              have rS := S3.rn.setRow (V' := by8 (hashF key m b))
              have lS := S3.la
              clear hK K S3 qn
              refine tp 18 _ ?r13
              refine wpAnyH_done (by kernel_rfl) ?_ _
              have q0 := heap_pos (S87.r0 hHeld)
              have q9 := heap_pos rS
              go_wp2
              refine bodyPost_ret (res40 Tryz.results136 _ _ w.heap.size _ rfl (Row.setRow (S87.r0 hHeld))) rfl ⟨rfl, ?_⟩
              exact Below.setRow (S87.b hHeld) (Nat.le_refl _) _
            exact AllReadyH.nil
          exact AllReadyH.nil
        refine AllReadyH.cons rfl (fun K hK => ?_) ?_
        · go_simp
          have S3 := S87.new hHeld
          refine hK.out _ _ S3.s (fun hHeld => ?_)
          clear hK K
          refine wpAnyH_ready (rs := [12]) (by kernel_rfl) (by simp) ?_
          refine AllReadyH.cons rfl (fun K hK => ?_) ?_
          · go_simp
            refine (HH.out _).mono ?_
            rintro e wa ⟨rfl, ba⟩
            have S4 := S3.keep ba
            clear S3
            have S3 := S4
            clear S4
            have S2 := S3.s
            clear ba hHeld
            go_wp2_with fail
            refine hK.out _ _ S2 (fun hHeld => ?_)
            clear hK K S2
            refine tp 13 _ ?r14
            refine tp 14 _ ?r15
            refine tp 15 _ ?r16
            refine wpAnyH_ready (rs := [17]) (by kernel_rfl) (by simp) ?_
            refine AllReadyH.cons rfl (fun K hK => ?_) ?_
            · have qn := heap_pos S3.rn
              go_simp
              refine hK.out _ _ S3.set (fun hHeld => ?_)
              have rS := S3.rn.setRow (V' := by8 (hashF key m b))
              have lS := S3.la
              clear hK K S3 qn
              refine tp 18 _ ?r17
              refine wpAnyH_done (by kernel_rfl) ?_ _
              have q0 := heap_pos (S87.r0 hHeld)
              have q9 := heap_pos rS
              go_wp2
              refine bodyPost_ret (res40 Tryz.results136 _ _ w.heap.size _ rfl (Row.setRow (S87.r0 hHeld))) rfl ⟨rfl, ?_⟩
              exact Below.setRow (S87.b hHeld) (Nat.le_refl _) _
            exact AllReadyH.nil
          exact AllReadyH.nil
        exact AllReadyH.nil
      refine AllReadyH.cons rfl (fun K hK => ?_) ?_
      · go_simp
        have S3 := S87.new hHeld
        refine hK.out _ _ S3.s (fun hHeld => ?_)
        clear hK K
        refine wpAnyH_ready (rs := [10]) (by kernel_rfl) (by simp) ?_
        refine AllReadyH.cons rfl (fun K hK => ?_) ?_
        · go_simp
          refine (HX.out _).mono ?_
          rintro e wa ⟨rfl, ba⟩
          have S4 := S3.keep ba
          clear S3
          have S3 := S4
          clear S4
          have S2 := S3.s
          clear ba hHeld
          go_wp2_with fail
          refine hK.out _ _ S2 (fun hHeld => ?_)
          clear hK K S2
          refine tk 11 ?v18 ?y18 ?r18
          case y18 => (intro W hW; go_simp; rw [if_neg (by omega)])
          refine wpAnyH_ready (rs := [12]) (by kernel_rfl) (by simp) ?_
          refine AllReadyH.cons rfl (fun K hK => ?_) ?_
          · go_simp
            refine (HH.out _).mono ?_
            rintro e wa ⟨rfl, ba⟩
            have S4 := S3.keep ba
            clear S3
            have S3 := S4
            clear S4
            have S2 := S3.s
            clear ba hHeld
            go_wp2_with fail
            refine hK.out _ _ S2 (fun hHeld => ?_)
            clear hK K S2
            refine tp 13 _ ?r19
            refine tp 14 _ ?r20
            refine tp 15 _ ?r21
            refine wpAnyH_ready (rs := [17]) (by kernel_rfl) (by simp) ?_
            refine AllReadyH.cons rfl (fun K hK => ?_) ?_
            · have qn := heap_pos S3.rn
              go_simp
              refine hK.out _ _ S3.set (fun hHeld => ?_)
              have rS := S3.rn.setRow (V' := by8 (hashF key m b))
              have lS := S3.la
              clear hK K S3 qn
              refine tp 18 _ ?r22
              refine wpAnyH_done (by kernel_rfl) ?_ _
              have q0 := heap_pos (S87.r0 hHeld)
              have q9 := heap_pos rS
              go_wp2
              refine bodyPost_ret (res40 Tryz.results136 _ _ w.heap.size _ rfl (Row.setRow (S87.r0 hHeld))) rfl ⟨rfl, ?_⟩
              exact Below.setRow (S87.b hHeld) (Nat.le_refl _) _
            exact AllReadyH.nil
          exact AllReadyH.nil
        exact AllReadyH.nil
      exact AllReadyH.nil
    refine AllReadyH.cons rfl (fun K hK => ?_) ?_
    · go_simp
      have S3 := S87.new hHeld
      refine hK.out _ _ S3.s (fun hHeld => ?_)
      clear hK K
      refine wpAnyH_ready (rs := [7]) (by kernel_rfl) (by simp) ?_
      refine AllReadyH.cons rfl (fun K hK => ?_) ?_
      · go_simp
        refine (padded_any _ (by assumption) _).mono ?_
        rintro e wa ⟨rfl, ba⟩
        have S4 := S3.keep ba
        clear S3
        have S3 := S4
        clear S4
        have S2 := S3.s
        clear ba hHeld
        go_wp2_with fail
        refine hK.out _ _ S2 (fun hHeld => ?_)
        clear hK K S2
        refine tk 8 ?v23 ?y23 ?r23
        case y23 => (intro W hW; go_simp; rw [if_neg (by omega)])
        refine wpAnyH_ready (rs := [10]) (by kernel_rfl) (by simp) ?_
        refine AllReadyH.cons rfl (fun K hK => ?_) ?_
        · go_simp
          refine (HX.out _).mono ?_
          rintro e wa ⟨rfl, ba⟩
          have S4 := S3.keep ba
          clear S3
          have S3 := S4
          clear S4
          have S2 := S3.s
          clear ba hHeld
          go_wp2_with fail
          refine hK.out _ _ S2 (fun hHeld => ?_)
          clear hK K S2
          refine tk 11 ?v24 ?y24 ?r24
          case y24 => (intro W hW; go_simp; rw [if_neg (by omega)])
          refine wpAnyH_ready (rs := [12]) (by kernel_rfl) (by simp) ?_
          refine AllReadyH.cons rfl (fun K hK => ?_) ?_
          · go_simp
            refine (HH.out _).mono ?_
            rintro e wa ⟨rfl, ba⟩
            have S4 := S3.keep ba
            clear S3
            have S3 := S4
            clear S4
            have S2 := S3.s
            clear ba hHeld
            go_wp2_with fail
            refine hK.out _ _ S2 (fun hHeld => ?_)
            clear hK K S2
            refine tp 13 _ ?r25
            refine tp 14 _ ?r26
            refine tp 15 _ ?r27
            refine wpAnyH_ready (rs := [17]) (by kernel_rfl) (by simp) ?_
            refine AllReadyH.cons rfl (fun K hK => ?_) ?_
            · have qn := heap_pos S3.rn
              go_simp
              refine hK.out _ _ S3.set (fun hHeld => ?_)
              have rS := S3.rn.setRow (V' := by8 (hashF key m b))
              have lS := S3.la
              clear hK K S3 qn
              refine tp 18 _ ?r28
              refine wpAnyH_done (by kernel_rfl) ?_ _
              have q0 := heap_pos (S87.r0 hHeld)
              have q9 := heap_pos rS
              go_wp2
              refine bodyPost_ret (res40 Tryz.results136 _ _ w.heap.size _ rfl (Row.setRow (S87.r0 hHeld))) rfl ⟨rfl, ?_⟩
              exact Below.setRow (S87.b hHeld) (Nat.le_refl _) _
            exact AllReadyH.nil
          exact AllReadyH.nil
        exact AllReadyH.nil
      exact AllReadyH.nil
    exact AllReadyH.nil
  refine AllReadyH.cons rfl (fun K hK => ?_) ?_
  · go_simp
    have S3 : S87n w _ w.heap.size g gc w2.heap.size key _ := S87.new (w := w2.drew) hHeld
    refine hK.out _ _ S3.s (fun hHeld => ?_)
    clear hK K
    refine wpAnyH_ready (rs := [5]) (by kernel_rfl) (by simp) ?_
    refine AllReadyH.cons rfl (fun K hK => ?_) ?_
    · go_simp
      refine (padded_any _ (by assumption) _).mono ?_
      rintro e wa ⟨rfl, ba⟩
      have S4 := S3.keep ba
      clear S3
      have S3 := S4
      clear S4
      have S2 := S3.s
      clear ba hHeld
      go_wp2_with fail
      refine hK.out _ _ S2 (fun hHeld => ?_)
      clear hK K S2
      refine wpAnyH_ready (rs := [7]) (by kernel_rfl) (by simp) ?_
      refine AllReadyH.cons rfl (fun K hK => ?_) ?_
      · go_simp
        refine (padded_any _ (by assumption) _).mono ?_
        rintro e wa ⟨rfl, ba⟩
        have S4 := S3.keep ba
        clear S3
        have S3 := S4
        clear S4
        have S2 := S3.s
        clear ba hHeld
        go_wp2_with fail
        refine hK.out _ _ S2 (fun hHeld => ?_)
        clear hK K S2
        refine tk 8 ?v29 ?y29 ?r29
        case y29 => (intro W hW; go_simp; rw [if_neg (by omega)])
        refine wpAnyH_ready (rs := [10]) (by kernel_rfl) (by simp) ?_
        refine AllReadyH.cons rfl (fun K hK => ?_) ?_
        · go_simp
          refine (HX.out _).mono ?_
          rintro e wa ⟨rfl, ba⟩
          have S4 := S3.keep ba
          clear S3
          have S3 := S4
          clear S4
          have S2 := S3.s
          clear ba hHeld
          go_wp2_with fail
          refine hK.out _ _ S2 (fun hHeld => ?_)
          clear hK K S2
          refine tk 11 ?v30 ?y30 ?r30
          case y30 => (intro W hW; go_simp; rw [if_neg (by omega)])
          refine wpAnyH_ready (rs := [12]) (by kernel_rfl) (by simp) ?_
          refine AllReadyH.cons rfl (fun K hK => ?_) ?_
          · go_simp
            refine (HH.out _).mono ?_
            rintro e wa ⟨rfl, ba⟩
            have S4 := S3.keep ba
            clear S3
            have S3 := S4
            clear S4
            have S2 := S3.s
            clear ba hHeld
            go_wp2_with fail
            refine hK.out _ _ S2 (fun hHeld => ?_)
            clear hK K S2
            refine tp 13 _ ?r31
            refine tp 14 _ ?r32
            refine tp 15 _ ?r33
            refine wpAnyH_ready (rs := [17]) (by kernel_rfl) (by simp) ?_
            refine AllReadyH.cons rfl (fun K hK => ?_) ?_
            · have qn := heap_pos S3.rn
              go_simp
              refine hK.out _ _ S3.set (fun hHeld => ?_)
              have rS := S3.rn.setRow (V' := by8 (hashF key m b))
              have lS := S3.la
              clear hK K S3 qn
              refine tp 18 _ ?r34
              refine wpAnyH_done (by kernel_rfl) ?_ _
              have q0 := heap_pos (S87.r0 hHeld)
              have q9 := heap_pos rS
              go_wp2
              refine bodyPost_ret (res40 Tryz.results136 _ _ w.heap.size _ rfl (Row.setRow (S87.r0 hHeld))) rfl ⟨rfl, ?_⟩
              exact Below.setRow (S87.b hHeld) (Nat.le_refl _) _
            exact AllReadyH.nil
          exact AllReadyH.nil
        exact AllReadyH.nil
      exact AllReadyH.nil
    exact AllReadyH.nil
  exact AllReadyH.nil
end Go.Proofs.YtgalgjmhdbncbabGreat
namespace Go.Proofs.YtgalgjmhdbncbabGreat
open Go.RowKit

def By (w : World) (g n : Nat) (f : Nat → UInt8) : Prop := g < w.heap.size ∧ ∀ j, j < n → w.cell? ⟨g, j, none⟩ = some (.int .u8 (f j).toNat) ∧ w.frozen? ⟨g, j, none⟩ = false
theorem By.keep {w w1 : World} {g n B : Nat} {f : Nat → UInt8} (h : By w g n f) (hb : Below B w w1) (hg : g < B) : By w1 g n f := by
  have h1 := h.1
  have h2 := hb.size
  refine ⟨?_, fun j hj => ?_⟩
  · have := (hb.mono hg).size
    have e := hb.block g hg
    have : w1.heap[g]? = some (w.heap[g]) := by rw [e]; simp [h1]
    rw [Array.getElem?_eq_some_iff] at this
    exact this.1
  · rw [hb.cell (p := ⟨g, j, none⟩) hg, hb.frozen (p := ⟨g, j, none⟩) hg]
    exact h.2 j hj
theorem By.other {w : World} {g n m o : Nat} {v : Value} {f : Nat → UInt8} (h : By w g n f) (hm : g ≠ m) : By (w.setCell ⟨m, o, none⟩ v) g n f :=
  ⟨by simpa using h.1, fun j hj => by
    rw [World.cell?_setCell_other (w := w) (v := v) (a := ⟨m, o, none⟩) (b := ⟨g, j, none⟩) (fun e => hm (congrArg Addr.block e).symm), World.frozen?_setCell]
    exact h.2 j hj⟩
theorem By.set {w : World} {g n k : Nat} {f : Nat → UInt8} (h : By w g n f) (hk : k < n) (x : UInt8) : By (w.setCell ⟨g, k, none⟩ (.int .u8 x.toNat)) g n (fun j => if j = k then x else f j) :=
  ⟨by simpa using h.1, fun j hj => by
    rw [World.frozen?_setCell]
    refine ⟨?_, (h.2 j hj).2⟩
    dsimp only
    by_cases e : j = k
    · subst e
      rw [if_pos rfl, World.cell?_setCell_same _ _ _ (h.2 j hj).1]
    · rw [if_neg e, World.cell?_setCell_other w ⟨g, k, none⟩ ⟨g, j, none⟩ _ (fun e' => e (congrArg Addr.off e').symm)]
      exact (h.2 j hj).1⟩
theorem By.drew {w : World} {g n : Nat} {f : Nat → UInt8} (h : By w g n f) : By w.drew g n f := h
theorem By.alloc {w : World} {g n : Nat} {f : Nat → UInt8} (h : By w g n f) (o : Obj) : By (w.alloc o) g n f := h.keep ((Below.refl w.heap.size w).alloc (Nat.le_refl _) o) h.1
theorem By.congr {w : World} {g n : Nat} {f f' : Nat → UInt8} (h : By w g n f) (e : ∀ j, j < n → f j = f' j) : By w g n f' := ⟨h.1, fun j hj => by rw [← e j hj]; exact h.2 j hj⟩
theorem By.chg {w w' : World} {g n k : Nat} {f : Nat → UInt8} (h : By w k n f) (hc : Chg g w w') (hk : k ≠ g) : By w' k n f := by
  have e := hc.block k hk
  refine ⟨by rw [hc.size]; exact h.1, fun j hj => ?_⟩
  have e1 : w'.cell? ⟨k, j, none⟩ = w.cell? ⟨k, j, none⟩ := by simp only [World.cell?, e]
  have e2 : w'.frozen? ⟨k, j, none⟩ = w.frozen? ⟨k, j, none⟩ := by simp only [World.frozen?, e]
  rw [e1, e2]
  exact h.2 j hj

theorem bs_run (s : ByteArray) (w : World) : ∃ cap o, s.size ≤ cap ∧ Sem.run Tryz.prog (convert 9 134 (.string s)) w = .ok (.slice (some ⟨w.heap.size, 0, none⟩) s.size cap) (w.drew.alloc o) ∧ By (w.drew.alloc o) w.heap.size s.size (sf s) := by
  have h := run_bytes_of_string (P := Tryz.prog) w 9 134 5 s Tryz.underlying9 Tryz.underlying134 Tryz.underlying5
  have hge := grownCap_ge w s.size 0 5
  refine ⟨_, _, hge, h, ?_⟩
  generalize grownCap w s.size 0 5 = c at *
  have hz : (bytesRow s c).size = c := by
    have : s.data.size = s.size := rfl
    simp [bytesRow]; omega
  rw [hz]
  have hh : (w.drew.alloc (.cells (bytesRow s c) 5 (c, c + 1))).heap[w.heap.size]? = some (.cells (bytesRow s c) 5 (c, c + 1)) := heap_of_new w.drew _ _ rfl
  refine ⟨by simp, fun j hj => ⟨?_, ?_⟩⟩
  · rw [cell_of_row _ _ j _ _ _ hh]
    have hj' : j < s.data.size := hj
    simp only [bytesRow, sf]
    rw [Array.getElem?_append, if_pos (by simpa using hj')]
    simp [Array.getElem?_eq_getElem hj']
  · refine (World.frozen?_alloc_mark w.drew (bytesRow s c) 5 c (c + 1) j).trans ?_
    simp
    omega
theorem conv_by (w : World) (g n cap : Nat) (f : Nat → UInt8) (h : By w g n f) : (convert 134 9 (.slice (some ⟨g, 0, none⟩) n cap)).run Tryz.prog w = .ok (.string (str n f)) w := by
  have := run_convert_bytes_back (P := Tryz.prog) w 134 9 5 ⟨g, 0, none⟩ cap ((List.range n).map f) Tryz.underlying134 Tryz.underlying5 Tryz.underlying9 (fun j hj => by
    have hj' : j < n := by simpa using hj
    have hadd : (⟨g, 0, none⟩ : Addr).add j = ⟨g, j, none⟩ := by unfold Addr.add; split <;> simp_all
    rw [hadd, (h.2 j hj').1]
    simp)
  simpa [str] using this
end Go.Proofs.YtgalgjmhdbncbabGreat
