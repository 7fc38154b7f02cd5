import Derived.Test.YtgalgjmhdbncbaaGreatZt05
import Derived.BigRegion
namespace Go.Proofs.YtgalgjmhdbncbaaGreat
open Go.RowKit
attribute [local go_sem ↓] Go.wp_at_zero Go.wp_at_succ
attribute [local go_sem ↓] ldw40 stw40 al40 bd40 bd117
attribute [local go_sem] run_ldT40 ldN_row run_stT40 stN_row stN_z run_al40 run_bd40 run_bd117 ld_h
attribute [local go_sem] blk_new blk_at blk_old blk_drew blk_setCell blk_setRow

structure SM (w0 w : World) (n g gc : Nat) (key : ByteArray) (V0 V1 : Nat → Value) : Prop where
  m : Mod w g gc key
  r0 : Row w n 16 145 V0
  r1 : Row w (n + 1) 16 145 V1
  lg : g < n
  lc : gc < n
  b : Below n w0 w
theorem SM.drew {w0 w : World} {n g gc : Nat} {key : ByteArray} {V0 V1 : Nat → Value} (h : SM w0 w n g gc key V0 V1) : SM w0 w.drew n g gc key V0 V1 := ⟨h.m.drew, h.r0, h.r1, h.lg, h.lc, h.b.drew⟩
theorem SM.keep {w0 w w1 : World} {n g gc : Nat} {key : ByteArray} {V0 V1 : Nat → Value} (h : SM w0 w n g gc key V0 V1) (hb : Below w.heap.size w w1) : SM w0 w1 n g gc key V0 V1 :=
  ⟨h.m.keep hb, h.r0.keep hb h.r0.lt, h.r1.keep hb h.r1.lt, h.lg, h.lc, h.b.trans (hb.mono (Nat.le_of_lt h.r0.lt))⟩
theorem tag_nonce0 (n : ByteArray) : tagT ⟨#[]⟩ n = nonceT n := by
  unfold tagT nonceT
  have : padT ⟨#[]⟩ = ⟨#[]⟩ := rfl
  rw [this]
  have e : ∀ s : ByteArray, (⟨#[]⟩ : ByteArray) ++ s = s := fun s => ByteArray.empty_append
  rw [e]
  rfl
theorem hash_first (key n : ByteArray) (h : n.size ≠ 12) : hashF key ⟨#[]⟩ n = firstF key n := by
  unfold hashF firstF
  rw [tag_nonce0, if_neg h]
theorem put_first (key n : ByteArray) (h : n.size = 12) (j : Nat) (hj : j < 16) : putF (fun j => if j < 12 then sf n j else 0) 12 4 1 j = firstF key n j := by
  unfold firstF putF
  rw [if_pos h, sf_append, h]
  by_cases h1 : j < 12
  · rw [if_neg (by omega), if_pos h1]
    exact if_pos h1
  · rw [if_pos (by omega), if_neg h1]
    exact (sf_str _ _ _ (by omega)).symm

set_option maxRecDepth 100000 in
set_option maxHeartbeats 1000000 in
theorem first_any (g gc : Nat) (key n : ByteArray) (hn : n.size ≤ 300) (w : World) (hM : Mod w g gc key) :
    Calls Tryz.prog 115 #[.pointer (some ⟨g, 0, none⟩), .string n] w fun e w' => e = .returned (.agg (arr 16 (by8 (firstF key n)))) ∧ Below w.heap.size w w' := by
  by_cases h : n.size = 12
  · have hd : ((n.size : Int) != 12) = false := by rw [h]; rfl
    have hle : n.size ≤ 16 := by omega
    have HF : Hid _ := fun j hj => put_first key n h j hj
    have HZ : Hid _ := h
    clear h
    have R1 : Hid _ := Row.new (w.alloc (.cells (arr 16 z8) 145)) 16 145 z8 (w.heap.size + 1) (by simp)
    have R0 : Hid _ := (Row.new w 16 145 z8 w.heap.size rfl).alloc (.cells (arr 16 z8) 145)
    have B0 : Hid _ := ((Below.refl w.heap.size w).alloc (Nat.le_refl _) (.cells (arr 16 z8) 145)).alloc (by simp) (.cells (arr 16 z8) 145)
    go_enter Tryz.func115, Tryz.ntmps115
    go_wp2_with (first
      | (refine cpStr rfl _ _ rfl (w.heap.size + 1) 16 16 16 145 z8 n rfl rfl R1 hle hle ?_; intro w1 hc r1))
    have r1' : Row w1 (w.heap.size + 1) 16 145 (by8 fun j => if j < 12 then sf n j else 0) := r1.congr fun j hj => by
      rw [HZ.out]
      simp only [z8, by8]
      split <;> rfl
    clear r1
    refine (put_any (w.heap.size + 1) 12 4 4 16 145 _ 1 (by omega) (by omega) (by omega) w1 r1').mono ?_
    rintro e w2 ⟨rfl, hc2, r2⟩
    have r0 := (Row.chg R0.out hc (by omega)).chg hc2 (by omega)
    have q0 := heap_pos r0
    have q2 := heap_pos r2
    go_wp2
    refine bodyPost_ret (res40 Tryz.results115 _ _ w.heap.size _ rfl r0.setRow) rfl ⟨?_, ?_⟩
    · congr 2
      exact arr_congr fun j hj => by
        simp only [by8]
        rw [HF.out j hj]
    · exact Below.setRow (Below.chg (Below.chg B0.out hc (by omega)) hc2 (by omega)) (Nat.le_refl _) _
  · have hd : ((n.size : Int) != 12) = true := by rw [bne_iff_ne]; omega
    have HF : Hid _ := hash_first key n h
    have HM : Hid _ := hM.alloc (.cells (arr 16 z8) 145)
    clear h hM
    go_enter Tryz.func115, Tryz.ntmps115
    go_wp2_with fail
    refine (ghash_any g gc key ⟨#[]⟩ n (by show 0 ≤ 300; omega) hn _ HM).mono ?_
    rintro e w1 ⟨rfl, hb⟩
    have r0 : Row w1 w.heap.size 16 145 z8 := Row.keep (Row.new w 16 145 z8 _ rfl) hb (by simp)
    have q0 := heap_pos r0
    go_wp2
    refine bodyPost_ret (res40 Tryz.results115 _ _ w.heap.size _ rfl r0.setRow) rfl ⟨by rw [HF.out], ?_⟩
    exact Below.setRow (((Below.refl _ w).alloc (Nat.le_refl _) _).trans (hb.mono (by simp))) (Nat.le_refl _) _

set_option maxRecDepth 100000 in
set_option maxHeartbeats 1000000 in
theorem tag_any (g gc : Nat) (key m b : ByteArray) (J : Nat → UInt8) (hk : KeyLen key.size) (hm : m.size ≤ 300) (hb : b.size ≤ 300) (w : World) (hM : Mod w g gc key) :
    Calls Tryz.prog 117 #[.pointer (some ⟨g, 0, none⟩), .agg (arr 16 (by8 J)), .string m, .string b] w fun e w' => e = .returned (.agg (arr 16 (by8 (tagF key J m b)))) ∧ Below w.heap.size w w' := by
  have HT : Hid ((fun j => aesF (sf key) J key.size j ^^^ hashF key m b j) = tagF key J m b) := by
    show _ = _
    funext j
    unfold tagF hashF
    exact UInt8.xor_comm _ _
  have HK : Hid _ := hk
  have hlt := hM.lt
  clear hk
  go_enter Tryz.func117, Tryz.ntmps117
  go_wp2_with fail
  suffices H : ∀ W, SM w W w.heap.size g gc key (by8 J) z8 → Code.wp Tryz.prog _ _ _ W from H _ ⟨(hM.alloc _).alloc _, (Row.new _ _ _ _ _ rfl).alloc _, Row.new _ _ _ _ _ (by simp), hlt.1, hlt.2, ((Below.refl _ _).alloc (Nat.le_refl _) _).alloc (by simp) _⟩
  intro W hS
  clear hM
  have c0 := hS.m.ptr
  have q0 := heap_pos hS.r0
  have q1 := heap_pos hS.r1
  go_region_with (first
    | (go_at_call 114; refine (cip_f gc key HK.out J _ hS.drew.m.c).mono ?_; rintro e w1 ⟨rfl, b1⟩; have hS := hS.drew.keep b1; have q1 := heap_pos hS.r1)
    | (go_at_call 139; refine (ghash_any g gc key m b hm hb _ hS.m).mono ?_; rintro e w2 ⟨rfl, b2⟩; have hS := hS.keep b2; have q1 := heap_pos hS.r1)
    | (go_at_call 135; refine (bxor_any _ _ _).mono ?_; rintro e w3 ⟨rfl, b3⟩; have hS := hS.keep b3; have q1 := heap_pos hS.r1))
  all_goals
    go_wp2
    refine bodyPost_ret (res40 Tryz.results117 _ _ (w.heap.size + 1) _ rfl hS.r1.setRow) rfl ⟨by rw [← HT.out], ?_⟩
    exact Below.setRow hS.b (by omega) _

theorem ctr_zero (J : Nat → UInt8) (j : Nat) (hj : j < 16) : ctrF J 0 j = J j := by
  unfold ctrF
  by_cases h : j < 12
  · rw [if_pos h]
  · rw [if_neg h, Nat.add_zero, num4 _ _ (by omega)]
    have l0 := (J 12).toNat_lt
    have l1 := (J 13).toNat_lt
    have l2 := (J 14).toNat_lt
    have l3 := (J 15).toNat_lt
    simp only [valF]
    unfold numF
    apply UInt8.toNat_inj.1
    rw [UInt8.toNat_ofNat']
    rcases (by omega : j = 12 ∨ j = 13 ∨ j = 14 ∨ j = 15) with rfl | rfl | rfl | rfl
    · show ((((0 * 256 + (J 12).toNat) * 256 + (J 13).toNat) * 256 + (J 14).toNat) * 256 + (J 15).toNat) / 16777216 % 256 = _; omega
    · show ((((0 * 256 + (J 12).toNat) * 256 + (J 13).toNat) * 256 + (J 14).toNat) * 256 + (J 15).toNat) / 65536 % 256 = _; omega
    · show ((((0 * 256 + (J 12).toNat) * 256 + (J 13).toNat) * 256 + (J 14).toNat) * 256 + (J 15).toNat) / 256 % 256 = _; omega
    · show ((((0 * 256 + (J 12).toNat) * 256 + (J 13).toNat) * 256 + (J 14).toNat) * 256 + (J 15).toNat) / 1 % 256 = _; omega
theorem ctr_next (J : Nat → UInt8) (i j : Nat) (hj : j < 16) : nextF (ctrF J i) j = ctrF J (i + 1) j := by
  have hv : valF (ctrF J i) 12 4 = (valF J 12 4 + i) % 4294967296 := by
    rw [val_num4 ((valF J 12 4 + i) % 4294967296) 12 (ctrF J i) (fun k hk => by unfold ctrF; rw [if_neg (by omega), Nat.add_sub_cancel_left])]
    omega
  unfold nextF putF
  rw [hv]
  by_cases h : j < 12
  · rw [if_neg (by omega)]
    unfold ctrF
    rw [if_pos h, if_pos h]
  · rw [if_pos (by omega)]
    unfold ctrF
    rw [if_neg h, ← num4 _ _ (by omega)]
    congr 1
    omega
theorem aes_congr (k : Nat → UInt8) (n : Nat) {f g : Nat → UInt8} (h : ∀ j, j < 16 → f j = g j) (j : Nat) (hj : j < 16) : aesF k f n j = aesF k g n j := by
  have e := (aes_str k n f g).2 (str_congr h)
  have e2 := congrArg (fun s => sf s j) e
  rwa [sf_str _ _ _ hj, sf_str _ _ _ hj] at e2
structure SC (w0 w : World) (n g gc : Nat) (key : ByteArray) (J : Nat → UInt8) (s : ByteArray) (k c : Nat) (M : Nat → UInt8) : Prop where
  m : Mod w g gc key
  o : By w (n + 1) s.size (fun j => if j < k then sf s j ^^^ streamF key J j else sf s j)
  r2 : Row w (n + 1 + 1) 16 145 (by8 (ctrF J c))
  r3 : Row w (n + 1 + 1 + 1) 16 145 (by8 M)
  lg : g < n
  lc : gc < n
  b : Below n w0 w
theorem SC.drew {w0 w : World} {n g gc : Nat} {key : ByteArray} {J : Nat → UInt8} {s : ByteArray} {k c : Nat} {M : Nat → UInt8} (h : SC w0 w n g gc key J s k c M) : SC w0 w.drew n g gc key J s k c M := ⟨h.m.drew, h.o, h.r2, h.r3, h.lg, h.lc, h.b.drew⟩
theorem SC.keep {w0 w w1 : World} {n g gc : Nat} {key : ByteArray} {J : Nat → UInt8} {s : ByteArray} {k c : Nat} {M : Nat → UInt8} (h : SC w0 w n g gc key J s k c M) (hb : Below w.heap.size w w1) : SC w0 w1 n g gc key J s k c M :=
  ⟨h.m.keep hb, h.o.keep hb h.o.1, h.r2.keep hb h.r2.lt, h.r3.keep hb h.r3.lt, h.lg, h.lc, h.b.trans (hb.mono (by have := h.o.1; omega))⟩
theorem SC.cnt {w0 w : World} {n g gc : Nat} {key : ByteArray} {J : Nat → UInt8} {s : ByteArray} {k c : Nat} {M : Nat → UInt8} (h : SC w0 w n g gc key J s k c M) : SC w0 (w.setRow (n + 1 + 1) (arr 16 (by8 (nextF (ctrF J c))))) n g gc key J s k (c + 1) M :=
  have hc := Chg.setRow w (n + 1 + 1) (arr 16 (by8 (nextF (ctrF J c))))
  ⟨⟨h.m.r.chg hc (by have := h.lg; omega), Row.chg h.m.c hc (by have := h.lc; omega)⟩, h.o.chg hc (by omega), h.r2.setRow.congr (fun j hj => by simp only [by8]; rw [ctr_next J c j hj]), h.r3.chg hc (by omega), h.lg, h.lc, Below.chg h.b hc (by omega)⟩
theorem SC.mask {w0 w : World} {n g gc : Nat} {key : ByteArray} {J : Nat → UInt8} {s : ByteArray} {k c : Nat} {M M' : Nat → UInt8} (h : SC w0 w n g gc key J s k c M) : SC w0 (w.setRow (n + 1 + 1 + 1) (arr 16 (by8 M'))) n g gc key J s k c M' :=
  have hc := Chg.setRow w (n + 1 + 1 + 1) (arr 16 (by8 M'))
  ⟨⟨h.m.r.chg hc (by have := h.lg; omega), Row.chg h.m.c hc (by have := h.lc; omega)⟩, h.o.chg hc (by omega), h.r2.chg hc (by omega), h.r3.setRow, h.lg, h.lc, Below.chg h.b hc (by omega)⟩
theorem SC.put {w0 w : World} {n g gc : Nat} {key : ByteArray} {J : Nat → UInt8} {s : ByteArray} {k c : Nat} {M : Nat → UInt8} (h : SC w0 w n g gc key J s k c M) (hk : k < s.size) (x : UInt8) (hx : x = sf s k ^^^ streamF key J k) :
    SC w0 (w.setCell ⟨n + 1, k, none⟩ (.int .u8 x.toNat)) n g gc key J s (k + 1) c M :=
  ⟨⟨h.m.r.other (by have := h.lg; omega), Row.other h.m.c (by have := h.lc; omega)⟩, (h.o.set hk x).congr (fun j hj => by
    by_cases e : j = k
    · subst e
      rw [if_pos rfl, if_pos (by omega), hx]
    · rw [if_neg e]
      by_cases e2 : j < k
      · rw [if_pos e2, if_pos (by omega)]
      · rw [if_neg e2, if_neg (by omega)]), h.r2.other (by omega), h.r3.other (by omega), h.lg, h.lc, h.b.setCell (by simp) _⟩
end Go.Proofs.YtgalgjmhdbncbaaGreat
namespace Go.Proofs.YtgalgjmhdbncbaaGreat
open Go.RowKit
def Bs (v : Value) : Sem Value := convert 9 105 v
theorem bs_wrap (v : Value) : convert 9 105 v = Bs v := rfl
attribute [local go_sem ↓] Go.wp_at_zero Go.wp_at_succ
attribute [local go_sem ↓] ldw40 stw40 al40 bd40 bs_wrap
attribute [local go_sem] run_ldT40 ldN_row run_stT40 stN_row stN_z run_al40 run_bd40
attribute [local go_sem] blk_new blk_at blk_old blk_drew blk_setCell blk_setRow alloc_setRow

theorem mask_end (key : ByteArray) (J : Nat → UInt8) (s : ByteArray) : str s.size (fun j => if j < s.size then sf s j ^^^ streamF key J j else sf s j) = maskT key J s := by
  unfold maskT
  exact str_congr fun j hj => by rw [if_pos hj]
set_option maxRecDepth 100000 in
set_option maxHeartbeats 2000000 in
theorem crossed_any (g gc : Nat) (key s : ByteArray) (J : Nat → UInt8) (hk : KeyLen key.size) (hs : s.size ≤ 1000) (w : World) (hM : Mod w g gc key) :
    Calls Tryz.prog 116 #[.pointer (some ⟨g, 0, none⟩), .agg (arr 16 (by8 J)), .string s] w fun e w' => e = .returned (.string (maskT key J s)) ∧ Below w.heap.size w w' := by
  have HK : Hid _ := hk
  have hlt := hM.lt
  obtain ⟨cap, o, hcap, hrun, hBy⟩ := bs_run s (w.alloc (.cells (arr 16 (by8 J)) 145))
  rw [show (w.alloc (.cells (arr 16 (by8 J)) 145)).heap.size = w.heap.size + 1 by simp] at hrun hBy
  replace hrun : Sem.run Tryz.prog (Bs (.string s)) (w.alloc (.cells (arr 16 (by8 J)) 145)) = _ := hrun
  have HB : Hid _ := hBy
  clear hk hBy
  go_enter Tryz.func116, Tryz.ntmps116
  go_wp2_with fail
  clear hrun
  suffices H : ∀ W, SC w W w.heap.size g gc key J s 0 0 (fun _ => 0) → Code.wp Tryz.prog _ _ _ W from by
    refine H _ ?_
    have B1 : By ((w.alloc (.cells (arr 16 (by8 J)) 145)).alloc o) (w.heap.size + 1) s.size (sf s) := HB.out
    have z1 : ((w.alloc (.cells (arr 16 (by8 J)) 145)).alloc o).heap.size = w.heap.size + 1 + 1 := by simp
    have M2 := (((hM.alloc (.cells (arr 16 (by8 J)) 145)).alloc o).alloc (.cells (arr 16 z8) 145)).alloc (.cells (arr 16 z8) 145)
    have B2 := (B1.alloc (.cells (arr 16 z8) 145)).alloc (.cells (arr 16 z8) 145)
    have R2 := (Row.new ((w.alloc (.cells (arr 16 (by8 J)) 145)).alloc o) 16 145 z8 (w.heap.size + 1 + 1) (by simp)).alloc (.cells (arr 16 z8) 145)
    have R3 := Row.new (((w.alloc (.cells (arr 16 (by8 J)) 145)).alloc o).alloc (.cells (arr 16 z8) 145)) 16 145 z8 (w.heap.size + 1 + 1 + 1) (by simp)
    have L2 := ((((Below.refl w.heap.size w).alloc (Nat.le_refl _) (.cells (arr 16 (by8 J)) 145)).alloc (by simp) o).alloc (by simp; omega) (.cells (arr 16 z8) 145)).alloc (by simp; omega) (.cells (arr 16 z8) 145)
    generalize (((w.alloc (.cells (arr 16 (by8 J)) 145)).alloc o).alloc (.cells (arr 16 z8) 145)).alloc (.cells (arr 16 z8) 145) = W2 at *
    have hc1 := Chg.setRow W2.drew (w.heap.size + 1 + 1) (arr 16 (by8 J))
    have hc2 := Chg.setRow (W2.drew.setRow (w.heap.size + 1 + 1) (arr 16 (by8 J))) (w.heap.size + 1 + 1 + 1) (arr 16 z8)
    exact ⟨⟨(M2.drew.r.chg hc1 (by omega)).chg hc2 (by omega), Row.chg (Row.chg M2.drew.c hc1 (by omega)) hc2 (by omega)⟩,
      ((B2.drew.chg hc1 (by omega)).chg hc2 (by omega)).congr (fun j _ => by rw [if_neg (by omega)]),
      (R2.drew.setRow.chg hc2 (by omega)).congr (fun j hj => by simp only [by8]; rw [ctr_zero J j hj]),
      (R3.drew.chg hc1 (by omega)).setRow, hlt.1, hlt.2, Below.chg (Below.chg L2.drew hc1 (by omega)) hc2 (by omega)⟩
  intro W hS
  clear hM HB
  go_wp2_with fail
  go_loopw [10, 11, 18] (fun _ _ i wr => ∃ (k : Nat) (M : Nat → UInt8), k ≤ s.size ∧ i = .int .i64 k ∧ SC w wr w.heap.size g gc key J s k ((k + 15) / 16) M ∧ Hid (k % 16 ≠ 0 → ∀ j, j < 16 → M j = aesF (sf key) (ctrF J (k / 16 + 1)) key.size j)) (fun _ _ i _ => s.size - (intOf i).toNat)
  case atStart => exact ⟨0, _, by omega, rfl, hS, fun h => absurd rfl h⟩
  case round =>
    clear hS
    obtain ⟨k, M, hk, rfl, hS, HM⟩ := hrel
    by_cases hlk : k < s.size
    · obtain ⟨r, hr⟩ : ∃ r, k % 16 = r := ⟨_, rfl⟩
      have hr16 : r < 16 := by omega
      have hi : ((k : Int) % 16) = (r : Int) := by omega
      have HE2 : Hid ((k + 1 + 15) / 16 = k / 16 + 1) := by show _ = _; omega
      by_cases h0 : r = 0
      · subst h0
        rw [show (k + 15) / 16 = k / 16 by omega] at hS
        have hi : ((k : Int) % 16) = 0 := by omega
        have HX : Hid (streamF key J k = aesF (sf key) (ctrF J (k / 16 + 1)) key.size 0) := by show streamF key J k = _; unfold streamF; rw [hr]
        have HM2 : Hid ((k + 1) % 16 ≠ 0 → ∀ j, j < 16 → aesF (sf key) (ctrF J (k / 16 + 1)) key.size j = aesF (sf key) (ctrF J ((k + 1) / 16 + 1)) key.size j) := by
          intro h j hj
          rw [show (k + 1) / 16 = k / 16 by omega]
        clear HM hr hr16
        generalize k / 16 = c at *
        have q2 := heap_pos hS.r2
        go_wp2_with fail
        refine (next_any _ _).mono ?_
        rintro e w1 ⟨rfl, b1⟩
        have hS1 := hS.keep b1
        clear q2 hS b1
        have q2 := heap_pos hS1.r2
        go_wp2_with fail
        suffices H : ∀ W, SC w W w.heap.size g gc key J s k (c + 1) M → Code.wp Tryz.prog _ _ _ W from H _ hS1.cnt
        intro W2 hS2
        clear hS1 q2
        have c0 := hS2.m.ptr
        have q2 := heap_pos hS2.r2
        have q3 := heap_pos hS2.r3
        go_region_with (first
          | (go_at_call 114; refine (cip_f gc key HK.out (ctrF J (c + 1)) _ hS2.drew.m.c).mono ?_; rintro e w3 ⟨rfl, b3⟩; have hS3 := hS2.drew.keep b3; have q3 := heap_pos hS3.r3))
        all_goals
          clear c0 q2
          generalize hM' : aesF (sf key) (ctrF J (c + 1)) key.size = M' at *
          go_wp2_with fail
          suffices H : ∀ W, SC w W w.heap.size g gc key J s k (c + 1) M' → Code.wp Tryz.prog _ _ _ W from H _ hS3.mask
          intro W hS
          clear hS3 q3
          have c1 : W.cell? ⟨w.heap.size + 1, k, none⟩ = some (.int .u8 (sf s k).toNat) := by
            have := (hS.o.2 k hlk).1
            dsimp only at this
            rwa [if_neg (Nat.lt_irrefl k)] at this
          have f1 := (hS.o.2 k hlk).2
          have c3 : W.cell? ⟨w.heap.size + 1 + 1 + 1, 0, none⟩ = some (.int .u8 (M' 0).toNat) := hS.r3.cell 0 (by omega)
          go_region
          go_wp2
          rw [u8_xor_b]
          go_roundw
          case rel => exact ⟨k + 1, M', by omega, by go_num, by rw [HE2.out]; exact (SC.put hS hlk _ (by rw [HX.out])).drew, HM2⟩
          case measure => simp [intOf]; omega
      · rw [show (k + 15) / 16 = k / 16 + 1 by omega] at hS
        have hn0 : ((r : Int) == 0) = false := by rw [beq_eq_false_iff_ne]; omega
        have HX : Hid (streamF key J k = M r) := by show streamF key J k = _; unfold streamF; rw [hr, HM.out (by omega) r hr16]
        have HM2 : Hid ((k + 1) % 16 ≠ 0 → ∀ j, j < 16 → M j = aesF (sf key) (ctrF J ((k + 1) / 16 + 1)) key.size j) := by
          intro h j hj
          rw [show (k + 1) / 16 = k / 16 by omega]
          exact HM.out (by omega) j hj
        clear HM hr
        generalize k / 16 = c at *
        go_wp2_with fail
        have c1 : wr.cell? ⟨w.heap.size + 1, k, none⟩ = some (.int .u8 (sf s k).toNat) := by
          have := (hS.o.2 k hlk).1
          dsimp only at this
          rwa [if_neg (Nat.lt_irrefl k)] at this
        have f1 := (hS.o.2 k hlk).2
        have c3 : wr.cell? ⟨w.heap.size + 1 + 1 + 1, r, none⟩ = some (.int .u8 (M r).toNat) := hS.r3.cell r (by omega)
        go_region
        go_wp2
        rw [u8_xor_b]
        go_roundw
        case rel => exact ⟨k + 1, M, by omega, by go_num, by rw [HE2.out]; exact (SC.put hS hlk _ (by rw [HX.out])).drew, HM2⟩
        case measure => simp [intOf]; omega
    · have hks : k = s.size := by omega
      subst hks
      have hcv := conv_by wr (w.heap.size + 1) s.size cap _ hS.o
      have HE : Hid _ := mask_end key J s
      go_wp2
      go_ret
      exact ⟨by rw [← HE.out]; rfl, hS.b⟩
end Go.Proofs.YtgalgjmhdbncbaaGreat
namespace Go.Proofs.YtgalgjmhdbncbaaGreat

def headF (alg id : Nat) (nonce : ByteArray) (n j : Nat) : UInt8 :=
  if j = 0 then 99 else if j = 1 then 103 else if j = 2 then 1 else if j = 3 then UInt8.ofNat alg else if j = 4 then UInt8.ofNat (id / 256) else if j = 5 then UInt8.ofNat id
  else if j < 18 then sf nonce (j - 6) else if j = 18 then UInt8.ofNat (n / 256) else UInt8.ofNat n
def recF (alg id : Nat) (nonce body tag : ByteArray) (j : Nat) : UInt8 :=
  if j < 20 then headF alg id nonce body.size j else if j < 20 + body.size then sf body (j - 20) else sf tag (j - 20 - body.size)
def encT (alg id : Nat) (nonce body tag : ByteArray) : ByteArray := str (36 + body.size) (recF alg id nonce body tag)
structure IsRec (alg id : Nat) (nonce body tag : ByteArray) : Prop where
  a1 : 1 ≤ alg
  a2 : alg ≤ 3
  i : id ≤ 65535
  n : nonce.size = 12
  b : body.size ≤ 200
  t : tag.size = 16
def badAt (s : ByteArray) : Option Nat :=
  if s.size = 0 ∨ sf s 0 ≠ 99 then some 0
  else if s.size ≤ 1 ∨ sf s 1 ≠ 103 then some 1
  else if s.size ≤ 2 ∨ sf s 2 ≠ 1 then some 2
  else if s.size ≤ 3 ∨ (sf s 3).toNat < 1 ∨ 3 < (sf s 3).toNat then some 3
  else if 18 < s.size ∧ sf s 18 ≠ 0 then some 18
  else if s.size < 20 then some s.size
  else if 200 < (sf s 19).toNat then some 19
  else if s.size < 36 + (sf s 19).toNat then some s.size
  else if 36 + (sf s 19).toNat < s.size then some (36 + (sf s 19).toNat)
  else none

theorem encT_size (alg id : Nat) (nonce body tag : ByteArray) : (encT alg id nonce body tag).size = 36 + body.size := str_size _ _
theorem encT_byte (alg id : Nat) (nonce body tag : ByteArray) (j : Nat) (h : j < 36 + body.size) : sf (encT alg id nonce body tag) j = recF alg id nonce body tag j := sf_str _ _ _ h
theorem head0 (a i n : Nat) (s : ByteArray) : headF a i s n 0 = 99 := rfl
theorem head1 (a i n : Nat) (s : ByteArray) : headF a i s n 1 = 103 := rfl
theorem head2 (a i n : Nat) (s : ByteArray) : headF a i s n 2 = 1 := rfl
theorem head3 (a i n : Nat) (s : ByteArray) : headF a i s n 3 = UInt8.ofNat a := rfl
theorem head4 (a i n : Nat) (s : ByteArray) : headF a i s n 4 = UInt8.ofNat (i / 256) := rfl
theorem head5 (a i n : Nat) (s : ByteArray) : headF a i s n 5 = UInt8.ofNat i := rfl
theorem head18 (a i n : Nat) (s : ByteArray) : headF a i s n 18 = UInt8.ofNat (n / 256) := rfl
theorem head19 (a i n : Nat) (s : ByteArray) : headF a i s n 19 = UInt8.ofNat n := rfl
theorem headN (a i n : Nat) (s : ByteArray) (j : Nat) (h : j < 12) : headF a i s n (6 + j) = sf s j := by
  unfold headF
  rw [if_neg (by omega), if_neg (by omega), if_neg (by omega), if_neg (by omega), if_neg (by omega), if_neg (by omega), if_pos (by omega), Nat.add_sub_cancel_left]
theorem recF_head (alg id : Nat) (nonce body tag : ByteArray) (j : Nat) (h : j < 20) : recF alg id nonce body tag j = headF alg id nonce body.size j := if_pos h
theorem byte_nat (n : Nat) (h : n < 256) : (UInt8.ofNat n).toNat = n := by rw [UInt8.toNat_ofNat']; omega

theorem encT_cat (alg id : Nat) (nonce body tag : ByteArray) (hn : nonce.size = 12) (ht : tag.size = 16) :
    (⟨#[99, 103]⟩ : ByteArray) ++ numT 1 1 ++ numT alg 1 ++ numT id 2 ++ nonce ++ numT body.size 2 ++ body ++ tag = encT alg id nonce body tag := by
  have h2 : (⟨#[99, 103]⟩ : ByteArray).size = 2 := rfl
  have n1 : ∀ v, sf (numT v 1) 0 = UInt8.ofNat v := by
    intro v
    have : sf (numT v 1) 0 = numF v 1 0 := sf_str _ _ _ (by omega)
    rw [this]; unfold numF; simp
  have n20 : ∀ v, sf (numT v 2) 0 = UInt8.ofNat (v / 256) := by
    intro v
    have : sf (numT v 2) 0 = numF v 2 0 := sf_str _ _ _ (by omega)
    rw [this]; unfold numF; simp
  have n21 : ∀ v, sf (numT v 2) 1 = UInt8.ofNat v := by
    intro v
    have : sf (numT v 2) 1 = numF v 2 1 := sf_str _ _ _ (by omega)
    rw [this]; unfold numF; simp
  apply bytes_ext
  · simp only [ByteArray.size_append, numT_size, encT_size, h2, hn, ht]
    omega
  · intro j hj
    simp only [ByteArray.size_append, numT_size, h2, hn, ht] at hj
    rw [encT_byte _ _ _ _ _ _ (by omega)]
    by_cases hB : j < 20
    · rw [recF_head _ _ _ _ _ _ hB]
      simp only [sf_append, ByteArray.size_append, numT_size, h2, hn]
      rw [if_pos (by omega : j < 2 + 1 + 1 + 2 + 12 + 2 + body.size), if_pos (by omega : j < 2 + 1 + 1 + 2 + 12 + 2)]
      rcases (by omega : j = 0 ∨ j = 1 ∨ j = 2 ∨ j = 3 ∨ j = 4 ∨ j = 5 ∨ (6 ≤ j ∧ j < 18) ∨ j = 18 ∨ j = 19) with h | h | h | h | h | h | h | h | h
      · subst h; rfl
      · subst h; rfl
      · subst h; rw [head2]; simp [n1]
      · subst h; rw [head3]; simp [n1]
      · subst h; rw [head4]; simp [n20]
      · subst h; rw [head5]; simp [n21]
      · have e := headN alg id body.size nonce (j - 6) (by omega)
        rw [show 6 + (j - 6) = j by omega] at e
        rw [e, if_pos (by omega), if_neg (by omega)]
      · subst h; rw [head18]; simp [n20]
      · subst h; rw [head19]; simp [n21]
    · by_cases hC : j < 20 + body.size
      · have hr : recF alg id nonce body tag j = sf body (j - 20) := by unfold recF; rw [if_neg hB, if_pos hC]
        rw [hr]
        simp only [sf_append, ByteArray.size_append, numT_size, h2, hn]
        rw [if_pos (by omega), if_neg (by omega)]
      · have hr : recF alg id nonce body tag j = sf tag (j - 20 - body.size) := by unfold recF; rw [if_neg hB, if_neg hC]
        rw [hr]
        simp only [sf_append, ByteArray.size_append, numT_size, h2, hn]
        rw [if_neg (by omega)]
        congr 1
        omega

theorem bad_like {alg id : Nat} {nonce body tag : ByteArray} (R : IsRec alg id nonce body tag) (s : ByteArray) (n : Nat) (_hn : n ≤ 36 + body.size) (hs : n ≤ s.size) (hb : ∀ j, j < n → sf s j = recF alg id nonce body tag j) (hc : s.size = n ∨ n = 36 + body.size) :
    badAt s = if s.size < 36 + body.size then some s.size else if 36 + body.size < s.size then some (36 + body.size) else none := by
  have ra := R.a1
  have ra2 := R.a2
  have rb := R.b
  have e0 : 0 < n → sf s 0 = 99 := fun h => (hb 0 h).trans rfl
  have e1 : 1 < n → sf s 1 = 103 := fun h => (hb 1 h).trans rfl
  have e2 : 2 < n → sf s 2 = 1 := fun h => (hb 2 h).trans rfl
  have e3 : 3 < n → (sf s 3).toNat = alg := fun h => by rw [hb 3 h, recF_head _ _ _ _ _ _ (by omega), head3, byte_nat _ (by omega)]
  have e18 : 18 < n → sf s 18 = 0 := fun h => by
    rw [hb 18 h, recF_head _ _ _ _ _ _ (by omega), head18, show body.size / 256 = 0 by omega]
    rfl
  have e19 : 19 < n → (sf s 19).toNat = body.size := fun h => by rw [hb 19 h, recF_head _ _ _ _ _ _ (by omega), head19, byte_nat _ (by omega)]
  clear hb
  unfold badAt
  by_cases h0 : s.size = 0
  · rw [if_pos (Or.inl h0), if_pos (by omega), h0]
  rw [if_neg (by rintro (h | h); exact h0 h; exact h (e0 (by omega)))]
  by_cases h1 : s.size ≤ 1
  · rw [if_pos (Or.inl h1), if_pos (by omega)]
    congr 1
    omega
  rw [if_neg (by rintro (h | h); exact h1 h; exact h (e1 (by omega)))]
  by_cases h2 : s.size ≤ 2
  · rw [if_pos (Or.inl h2), if_pos (by omega)]
    congr 1
    omega
  rw [if_neg (by rintro (h | h); exact h2 h; exact h (e2 (by omega)))]
  by_cases h3 : s.size ≤ 3
  · rw [if_pos (Or.inl h3), if_pos (by omega)]
    congr 1
    omega
  have e3' := e3 (by omega)
  rw [if_neg (by omega)]
  by_cases h18 : 18 < s.size
  · rw [if_neg (by rintro ⟨_, h⟩; exact h (e18 (by omega)))]
    by_cases h20 : s.size < 20
    · rw [if_pos h20, if_pos (by omega)]
    · have e19' := e19 (by omega)
      rw [if_neg h20, e19', if_neg (by omega)]
  · rw [if_neg (by rintro ⟨h, _⟩; exact h18 h), if_pos (by omega), if_pos (by omega)]
theorem bad_enc {alg id : Nat} {nonce body tag : ByteArray} (R : IsRec alg id nonce body tag) : badAt (encT alg id nonce body tag) = none := by
  rw [bad_like R _ (36 + body.size) (Nat.le_refl _) (by rw [encT_size]; omega) (fun j hj => encT_byte _ _ _ _ _ _ hj) (Or.inr rfl), encT_size, if_neg (by omega), if_neg (by omega)]
theorem bad_cut {alg id : Nat} {nonce body tag : ByteArray} (R : IsRec alg id nonce body tag) (n : Nat) (hn : n < 36 + body.size) : badAt ((encT alg id nonce body tag).extract 0 n) = some n := by
  have hz : ((encT alg id nonce body tag).extract 0 n).size = n := by rw [cut_size _ _ _ (by rw [encT_size]; omega)]; omega
  rw [bad_like R _ n (by omega) (by omega) ?_ (Or.inl hz), hz, if_pos hn]
  intro j hj
  rw [sf_cut _ _ _ _ (by rw [encT_size]; omega) (by omega), Nat.zero_add]
  exact encT_byte _ _ _ _ _ _ (by omega)
theorem bad_more {alg id : Nat} {nonce body tag : ByteArray} (R : IsRec alg id nonce body tag) (x : ByteArray) (hx : 0 < x.size) : badAt (encT alg id nonce body tag ++ x) = some (36 + body.size) := by
  rw [bad_like R _ (36 + body.size) (Nat.le_refl _) (by rw [ByteArray.size_append, encT_size]; omega) ?_ (Or.inr rfl), ByteArray.size_append, encT_size, if_neg (by omega), if_pos (by omega)]
  intro j hj
  rw [sf_append, encT_size, if_pos hj]
  exact encT_byte _ _ _ _ _ _ hj
theorem read_alg {alg id : Nat} {nonce body tag : ByteArray} (R : IsRec alg id nonce body tag) : (sf (encT alg id nonce body tag) 3).toNat = alg := by
  have := R.a2
  rw [encT_byte _ _ _ _ _ _ (by omega), recF_head _ _ _ _ _ _ (by omega), head3, byte_nat _ (by omega)]
theorem read_id {alg id : Nat} {nonce body tag : ByteArray} (R : IsRec alg id nonce body tag) : valF (sf (encT alg id nonce body tag)) 4 2 = id := by
  have := R.i
  simp only [valF]
  rw [encT_byte _ _ _ _ _ _ (by omega), encT_byte _ _ _ _ _ _ (by omega), recF_head _ _ _ _ _ _ (by omega), recF_head _ _ _ _ _ _ (by omega), head4, head5, byte_nat _ (by omega), UInt8.toNat_ofNat']
  omega
theorem read_len {alg id : Nat} {nonce body tag : ByteArray} (R : IsRec alg id nonce body tag) : (sf (encT alg id nonce body tag) 19).toNat = body.size := by
  have := R.b
  rw [encT_byte _ _ _ _ _ _ (by omega), recF_head _ _ _ _ _ _ (by omega), head19, byte_nat _ (by omega)]
theorem read_nonce {alg id : Nat} {nonce body tag : ByteArray} (R : IsRec alg id nonce body tag) : (encT alg id nonce body tag).extract 6 18 = nonce := by
  have hz : ((encT alg id nonce body tag).extract 6 18).size = 12 := by rw [cut_size _ _ _ (by rw [encT_size]; omega)]
  apply bytes_ext
  · rw [hz, R.n]
  · intro j hj
    rw [hz] at hj
    rw [sf_cut _ _ _ _ (by rw [encT_size]; omega) (by omega), encT_byte _ _ _ _ _ _ (by omega), recF_head _ _ _ _ _ _ (by omega), headN _ _ _ _ _ hj]
theorem read_body {alg id : Nat} {nonce body tag : ByteArray} : (encT alg id nonce body tag).extract 20 (20 + body.size) = body := by
  have hz : ((encT alg id nonce body tag).extract 20 (20 + body.size)).size = body.size := by rw [cut_size _ _ _ (by rw [encT_size]; omega)]; omega
  apply bytes_ext
  · rw [hz]
  · intro j hj
    rw [hz] at hj
    rw [sf_cut _ _ _ _ (by rw [encT_size]; omega) (by omega), encT_byte _ _ _ _ _ _ (by omega)]
    unfold recF
    rw [if_neg (by omega), if_pos (by omega), Nat.add_sub_cancel_left]
theorem read_tag {alg id : Nat} {nonce body tag : ByteArray} (R : IsRec alg id nonce body tag) : (encT alg id nonce body tag).extract (20 + body.size) (36 + body.size) = tag := by
  have hz : ((encT alg id nonce body tag).extract (20 + body.size) (36 + body.size)).size = 16 := by rw [cut_size _ _ _ (by rw [encT_size]; omega)]; omega
  apply bytes_ext
  · rw [hz, R.t]
  · intro j hj
    rw [hz] at hj
    rw [sf_cut _ _ _ _ (by rw [encT_size]; omega) (by omega), encT_byte _ _ _ _ _ _ (by omega)]
    unfold recF
    rw [if_neg (by omega), if_neg (by omega)]
    congr 1
    omega
theorem bad_le (s : ByteArray) (p : Nat) (h : badAt s = some p) : p ≤ s.size := by
  unfold badAt at h
  split at h
  · simp only [Option.some.injEq] at h; omega
  · rename_i h0
    split at h
    · simp only [Option.some.injEq] at h; omega
    · rename_i h1
      split at h
      · simp only [Option.some.injEq] at h; omega
      · rename_i h2
        split at h
        · simp only [Option.some.injEq] at h; omega
        · rename_i h3
          split at h
          · simp only [Option.some.injEq] at h; omega
          · split at h
            · simp only [Option.some.injEq] at h; omega
            · split at h
              · simp only [Option.some.injEq] at h; omega
              · split at h
                · simp only [Option.some.injEq] at h; omega
                · split at h
                  · simp only [Option.some.injEq] at h; omega
                  · cases h
structure Reads (s : ByteArray) : Prop where
  z : s.size = 36 + (sf s 19).toNat
  r : IsRec (sf s 3).toNat (valF (sf s) 4 2) (s.extract 6 18) (s.extract 20 (20 + (sf s 19).toNat)) (s.extract (20 + (sf s 19).toNat) (36 + (sf s 19).toNat))
  e : encT (sf s 3).toNat (valF (sf s) 4 2) (s.extract 6 18) (s.extract 20 (20 + (sf s 19).toNat)) (s.extract (20 + (sf s 19).toNat) (36 + (sf s 19).toNat)) = s
theorem bad_none (s : ByteArray) (h : badAt s = none) : Reads s := by
  unfold badAt at h
  split at h
  · cases h
  · rename_i h0
    split at h
    · cases h
    · rename_i h1
      split at h
      · cases h
      · rename_i h2
        split at h
        · cases h
        · rename_i h3
          split at h
          · cases h
          · rename_i h18
            split at h
            · cases h
            · rename_i h20
              split at h
              · cases h
              · rename_i h19
                split at h
                · cases h
                · rename_i hl
                  split at h
                  · cases h
                  · rename_i hg
                    clear h
                    have hz : s.size = 36 + (sf s 19).toNat := by omega
                    have b0 : sf s 0 = 99 := Decidable.byContradiction fun e => h0 (Or.inr e)
                    have b1 : sf s 1 = 103 := Decidable.byContradiction fun e => h1 (Or.inr e)
                    have b2 : sf s 2 = 1 := Decidable.byContradiction fun e => h2 (Or.inr e)
                    have b18 : sf s 18 = 0 := Decidable.byContradiction fun e => h18 ⟨by omega, e⟩
                    have l4 := (sf s 4).toNat_lt
                    have l5 := (sf s 5).toNat_lt
                    have hv : valF (sf s) 4 2 = (sf s 4).toNat * 256 + (sf s 5).toNat := by simp [valF]
                    have hb : (s.extract 20 (20 + (sf s 19).toNat)).size = (sf s 19).toNat := by rw [cut_size _ _ _ (by omega)]; omega
                    refine ⟨hz, ⟨by omega, by omega, by omega, by rw [cut_size _ _ _ (by omega)], by omega, by rw [cut_size _ _ _ (by omega)]; omega⟩, ?_⟩
                    apply bytes_ext
                    · rw [encT_size, hb, hz]
                    · intro j hj
                      rw [encT_size, hb] at hj
                      rw [encT_byte _ _ _ _ _ _ (by rw [hb]; exact hj)]
                      unfold recF
                      rw [hb]
                      by_cases hB : j < 20
                      · rw [if_pos hB]
                        rcases (by omega : j = 0 ∨ j = 1 ∨ j = 2 ∨ j = 3 ∨ j = 4 ∨ j = 5 ∨ (6 ≤ j ∧ j < 18) ∨ j = 18 ∨ j = 19) with h | h | h | h | h | h | h | h | h
                        · subst h; rw [head0, b0]
                        · subst h; rw [head1, b1]
                        · subst h; rw [head2, b2]
                        · subst h; rw [head3, UInt8.ofNat_toNat]
                        · subst h; rw [head4, hv, show ((sf s 4).toNat * 256 + (sf s 5).toNat) / 256 = (sf s 4).toNat by omega, UInt8.ofNat_toNat]
                        · subst h
                          rw [head5, hv]
                          apply UInt8.toNat_inj.1
                          rw [UInt8.toNat_ofNat']
                          omega
                        · have e := headN (sf s 3).toNat (valF (sf s) 4 2) (sf s 19).toNat (s.extract 6 18) (j - 6) (by omega)
                          rw [show 6 + (j - 6) = j by omega] at e
                          rw [e, sf_cut _ _ _ _ (by omega) (by omega), show 6 + (j - 6) = j by omega]
                        · subst h
                          rw [head18, b18, show (sf s 19).toNat / 256 = 0 by omega]
                          rfl
                        · subst h; rw [head19, UInt8.ofNat_toNat]
                      · rw [if_neg hB]
                        by_cases hC : j < 20 + (sf s 19).toNat
                        · rw [if_pos hC, sf_cut _ _ _ _ (by omega) (by omega), show 20 + (j - 20) = j by omega]
                        · rw [if_neg hC, sf_cut _ _ _ _ (by omega) (by omega), show 20 + (sf s 19).toNat + (j - 20 - (sf s 19).toNat) = j by omega]
end Go.Proofs.YtgalgjmhdbncbaaGreat
namespace Go.Proofs.YtgalgjmhdbncbaaGreat
open Go.RowKit
attribute [local go_sem ↓] Go.wp_at_zero Go.wp_at_succ

set_option maxHeartbeats 400000 in
theorem sizes_no (a : Int) (h : ¬ (1 ≤ a ∧ a ≤ 3)) (w : World) : Calls Tryz.prog 110 #[.int .i64 a] w fun e w' => e = .returned (.tuple #[.int .i64 0, .int .i64 0]) ∧ w' = w := by
  have h1 : (a == 1) = false := by rw [beq_eq_false_iff_ne]; omega
  have h2 : (a == 2) = false := by rw [beq_eq_false_iff_ne]; omega
  have h3 : (a == 3) = false := by rw [beq_eq_false_iff_ne]; omega
  clear h
  go_enter Tryz.func110, Tryz.ntmps110
  go_wp2
  go_ret2
  exact ⟨rfl, rfl⟩
set_option maxHeartbeats 400000 in
theorem isAlg_any (a : Int) (w : World) : Calls Tryz.prog 141 #[.int .i64 a] w fun e w' => e = .returned (.bool (decide (1 ≤ a ∧ a ≤ 3))) ∧ w' = w := by
  by_cases h : 1 ≤ a ∧ a ≤ 3
  · rw [decide_eq_true h]
    obtain ⟨k, rfl⟩ : ∃ k : Nat, a = k := ⟨a.toNat, by omega⟩
    have h1 : 1 ≤ k := by omega
    have h2 : k ≤ 3 := by omega
    have hpos : decide ((0 : Int) < 8 + 8 * (k : Int)) = true := decide_eq_true (by omega)
    clear h
    go_enter Tryz.func141, Tryz.ntmps141
    go_wp2_with fail
    refine (sizes_any k h1 h2 _).mono ?_
    rintro e w1 ⟨rfl, hw⟩
    subst hw
    go_wp2
    go_ret
    exact ⟨rfl, rfl⟩
  · rw [decide_eq_false h]
    have H : Hid _ := h
    clear h
    go_enter Tryz.func141, Tryz.ntmps141
    go_wp2_with fail
    refine (sizes_no a H.out _).mono ?_
    rintro e w1 ⟨rfl, hw⟩
    subst hw
    go_wp2
    go_ret
    exact ⟨rfl, rfl⟩
set_option maxHeartbeats 400000 in
theorem length_any (n : Nat) (hn : n ≤ 100000) (w : World) : Calls Tryz.prog 122 #[.int .i64 n] w fun e w' => e = .returned (.int .i64 ((36 + n : Nat) : Int)) ∧ w' = w := by
  have HE : Hid ((((36 + n : Nat)) : Int) = 20 + (n : Int) + 16) := by show _ = _; omega
  go_enter Tryz.func122, Tryz.ntmps122
  go_wp2
  go_ret
  exact ⟨by rw [HE.out]; rfl, rfl⟩
def recV (a i : Int) (n b t : ByteArray) : Value := .agg #[.int .i64 a, .int .i64 i, .string n, .string b, .string t]
def RecOk (a i : Int) (n b t : ByteArray) : Prop := (1 ≤ a ∧ a ≤ 3) ∧ 0 ≤ i ∧ i ≤ 65535 ∧ n.size = 12 ∧ b.size ≤ 200 ∧ t.size = 16
set_option maxRecDepth 100000 in
set_option maxHeartbeats 1000000 in
theorem right_yes (a i : Int) (n b t : ByteArray) (h : RecOk a i n b t) (w : World) :
    Calls Tryz.prog 119 #[recV a i n b t] w fun e w' => e = .returned (.bool true) ∧ Below w.heap.size w w' := by
  obtain ⟨ha, h1, h2, h3, h4, h5⟩ := h
  have hd : decide (1 ≤ a ∧ a ≤ 3) = true := decide_eq_true ha
  have c3 : ((n.size : Int) == 12) = true := by rw [h3]; rfl
  have c5 : ((t.size : Int) == 16) = true := by rw [h5]; rfl
  unfold recV
  clear ha h3 h5
  go_enter Tryz.func119, Tryz.ntmps119
  go_wp2_with (go_at_call 141; refine (isAlg_any _ _).mono ?_; rintro e w1 ⟨rfl, hw⟩; rw [hw])
  go_ret
  exact ⟨rfl, (Below.refl _ _).alloc (Nat.le_refl _) _⟩
set_option maxRecDepth 100000 in
set_option maxHeartbeats 2000000 in
theorem right_no (a i : Int) (n b t : ByteArray) (h : ¬ RecOk a i n b t) (hb : b.size ≤ maxLen) (w : World) :
    Calls Tryz.prog 119 #[recV a i n b t] w fun e w' => e = .returned (.bool false) ∧ Below w.heap.size w w' := by
  unfold maxLen at hb
  unfold RecOk at h
  unfold recV
  by_cases h0 : 1 ≤ a ∧ a ≤ 3
  case neg =>
    have hd : decide (1 ≤ a ∧ a ≤ 3) = false := decide_eq_false h0
    clear h h0
    go_enter Tryz.func119, Tryz.ntmps119
    go_wp2_with (go_at_call 141; refine (isAlg_any _ _).mono ?_; rintro e w1 ⟨rfl, hw⟩; rw [hw])
    go_ret
    exact ⟨rfl, (Below.refl _ _).alloc (Nat.le_refl _) _⟩
  have hd : decide (1 ≤ a ∧ a ≤ 3) = true := decide_eq_true h0
  by_cases h1 : 0 ≤ i
  case neg =>
    clear h h0
    go_enter Tryz.func119, Tryz.ntmps119
    go_wp2_with (go_at_call 141; refine (isAlg_any _ _).mono ?_; rintro e w1 ⟨rfl, hw⟩; rw [hw])
    go_ret
    exact ⟨rfl, (Below.refl _ _).alloc (Nat.le_refl _) _⟩
  by_cases h2 : i ≤ 65535
  case neg =>
    clear h h0
    go_enter Tryz.func119, Tryz.ntmps119
    go_wp2_with (go_at_call 141; refine (isAlg_any _ _).mono ?_; rintro e w1 ⟨rfl, hw⟩; rw [hw])
    go_ret
    exact ⟨rfl, (Below.refl _ _).alloc (Nat.le_refl _) _⟩
  by_cases h3 : n.size = 12
  case neg =>
    have c3 : ((n.size : Int) == 12) = false := by rw [beq_eq_false_iff_ne]; omega
    clear h h0 h3
    go_enter Tryz.func119, Tryz.ntmps119
    go_wp2_with (go_at_call 141; refine (isAlg_any _ _).mono ?_; rintro e w1 ⟨rfl, hw⟩; rw [hw])
    go_ret
    exact ⟨rfl, (Below.refl _ _).alloc (Nat.le_refl _) _⟩
  have c3 : ((n.size : Int) == 12) = true := by rw [h3]; rfl
  by_cases h4 : b.size ≤ 200
  case neg =>
    clear h h0 h3
    go_enter Tryz.func119, Tryz.ntmps119
    go_wp2_with (go_at_call 141; refine (isAlg_any _ _).mono ?_; rintro e w1 ⟨rfl, hw⟩; rw [hw])
    go_ret
    exact ⟨rfl, (Below.refl _ _).alloc (Nat.le_refl _) _⟩
  by_cases h5 : t.size = 16
  case neg =>
    have c5 : ((t.size : Int) == 16) = false := by rw [beq_eq_false_iff_ne]; omega
    clear h h0 h3 h5
    go_enter Tryz.func119, Tryz.ntmps119
    go_wp2_with (go_at_call 141; refine (isAlg_any _ _).mono ?_; rintro e w1 ⟨rfl, hw⟩; rw [hw])
    go_ret
    exact ⟨rfl, (Below.refl _ _).alloc (Nat.le_refl _) _⟩
  exact absurd ⟨h0, h1, h2, h3, h4, h5⟩ h
end Go.Proofs.YtgalgjmhdbncbaaGreat
