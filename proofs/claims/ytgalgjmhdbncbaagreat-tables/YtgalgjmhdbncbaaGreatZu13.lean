import Derived.Test.YtgalgjmhdbncbaaGreatZu12
namespace Go.Proofs.YtgalgjmhdbncbaaGreat
open Go.RowKit
attribute [local go_sem ↓] Go.wp_at_zero Go.wp_at_succ
attribute [local go_sem ↓] ldw40 stw40 al40 bd40 bd117
attribute [local go_sem] run_ldT40 ldN_row run_stT40 stN_row stN_z run_al40 run_bd40 run_bd117 ld_h
attribute [local go_sem] blk_new blk_at blk_old blk_drew blk_setCell blk_setRow

structure SM (w0 w : World) (n g gc : Nat) (key : ByteArray) (V0 V1 : Nat → Value) : Prop where
  m : Mod w g gc key
  r0 : Row w n 16 145 V0
  r1 : Row w (n + 1) 16 145 V1
  lg : g < n
  lc : gc < n
  b : Below n w0 w
theorem SM.drew {w0 w : World} {n g gc : Nat} {key : ByteArray} {V0 V1 : Nat → Value} (h : SM w0 w n g gc key V0 V1) : SM w0 w.drew n g gc key V0 V1 := ⟨h.m.drew, h.r0, h.r1, h.lg, h.lc, h.b.drew⟩
theorem SM.keep {w0 w w1 : World} {n g gc : Nat} {key : ByteArray} {V0 V1 : Nat → Value} (h : SM w0 w n g gc key V0 V1) (hb : Below w.heap.size w w1) : SM w0 w1 n g gc key V0 V1 :=
  ⟨h.m.keep hb, h.r0.keep hb h.r0.lt, h.r1.keep hb h.r1.lt, h.lg, h.lc, h.b.trans (hb.mono (Nat.le_of_lt h.r0.lt))⟩
theorem tag_nonce0 (n : ByteArray) : tagT ⟨#[]⟩ n = nonceT n := by
  unfold tagT nonceT
  have : padT ⟨#[]⟩ = ⟨#[]⟩ := rfl
  rw [this]
  have e : ∀ s : ByteArray, (⟨#[]⟩ : ByteArray) ++ s = s := fun s => ByteArray.empty_append
  rw [e]
  rfl
theorem hash_first (key n : ByteArray) (h : n.size ≠ 12) : hashF key ⟨#[]⟩ n = firstF key n := by
  unfold hashF firstF
  rw [tag_nonce0, if_neg h]
theorem put_first (key n : ByteArray) (h : n.size = 12) (j : Nat) (hj : j < 16) : putF (fun j => if j < 12 then sf n j else 0) 12 4 1 j = firstF key n j := by
  unfold firstF putF
  rw [if_pos h, sf_append, h]
  by_cases h1 : j < 12
  · rw [if_neg (by omega), if_pos h1]
    exact if_pos h1
  · rw [if_pos (by omega), if_neg h1]
    exact (sf_str _ _ _ (by omega)).symm

set_option maxRecDepth 100000 in
set_option maxHeartbeats 1000000 in
theorem first_any (g gc : Nat) (key n : ByteArray) (hn : n.size ≤ 300) (w : World) (hM : Mod w g gc key) :
    Calls Tryz.prog 115 #[.pointer (some ⟨g, 0, none⟩), .string n] w fun e w' => e = .returned (.agg (arr 16 (by8 (firstF key n)))) ∧ Below w.heap.size w w' := by
  by_cases h : n.size = 12
  · have hd : ((n.size : Int) != 12) = false := by rw [h]; rfl
    have hle : n.size ≤ 16 := by omega
    have HF : Hid _ := fun j hj => put_first key n h j hj
    have HZ : Hid _ := h
    clear h
    have R1 : Hid _ := Row.new (w.alloc (.cells (arr 16 z8) 145)) 16 145 z8 (w.heap.size + 1) (by simp)
    have R0 : Hid _ := (Row.new w 16 145 z8 w.heap.size rfl).alloc (.cells (arr 16 z8) 145)
    have B0 : Hid _ := ((Below.refl w.heap.size w).alloc (Nat.le_refl _) (.cells (arr 16 z8) 145)).alloc (by simp) (.cells (arr 16 z8) 145)
    go_enter Tryz.func115, Tryz.ntmps115
    go_wp2_with (first
      | (refine cpStr rfl _ _ rfl (w.heap.size + 1) 16 16 16 145 z8 n rfl rfl R1 hle hle ?_; intro w1 hc r1))
    have r1' : Row w1 (w.heap.size + 1) 16 145 (by8 fun j => if j < 12 then sf n j else 0) := r1.congr fun j hj => by
      rw [HZ.out]
      simp only [z8, by8]
      split <;> rfl
    clear r1
    refine (put_any (w.heap.size + 1) 12 4 4 16 145 _ 1 (by omega) (by omega) (by omega) w1 r1').mono ?_
    rintro e w2 ⟨rfl, hc2, r2⟩
    have r0 := (Row.chg R0.out hc (by omega)).chg hc2 (by omega)
    have q0 := heap_pos r0
    have q2 := heap_pos r2
    go_wp2
    refine bodyPost_ret (res40 Tryz.results115 _ _ w.heap.size _ rfl r0.setRow) rfl ⟨?_, ?_⟩
    · congr 2
      exact arr_congr fun j hj => by
        simp only [by8]
        rw [HF.out j hj]
    · exact Below.setRow (Below.chg (Below.chg B0.out hc (by omega)) hc2 (by omega)) (Nat.le_refl _) _
  · have hd : ((n.size : Int) != 12) = true := by rw [bne_iff_ne]; omega
    have HF : Hid _ := hash_first key n h
    have HM : Hid _ := hM.alloc (.cells (arr 16 z8) 145)
    clear h hM
    go_enter Tryz.func115, Tryz.ntmps115
    go_wp2_with fail
    refine (ghash_any g gc key ⟨#[]⟩ n (by show 0 ≤ 300; omega) hn _ HM).mono ?_
    rintro e w1 ⟨rfl, hb⟩
    have r0 : Row w1 w.heap.size 16 145 z8 := Row.keep (Row.new w 16 145 z8 _ rfl) hb (by simp)
    have q0 := heap_pos r0
    go_wp2
    refine bodyPost_ret (res40 Tryz.results115 _ _ w.heap.size _ rfl r0.setRow) rfl ⟨by rw [HF.out], ?_⟩
    exact Below.setRow (((Below.refl _ w).alloc (Nat.le_refl _) _).trans (hb.mono (by simp))) (Nat.le_refl _) _

set_option maxRecDepth 100000 in
set_option maxHeartbeats 1000000 in
theorem tag_any (g gc : Nat) (key m b : ByteArray) (J : Nat → UInt8) (hk : KeyLen key.size) (hm : m.size ≤ 300) (hb : b.size ≤ 300) (w : World) (hM : Mod w g gc key) :
    Calls Tryz.prog 117 #[.pointer (some ⟨g, 0, none⟩), .agg (arr 16 (by8 J)), .string m, .string b] w fun e w' => e = .returned (.agg (arr 16 (by8 (tagF key J m b)))) ∧ Below w.heap.size w w' := by
  have HT : Hid ((fun j => aesF (sf key) J key.size j ^^^ hashF key m b j) = tagF key J m b) := by
    show _ = _
    funext j
    unfold tagF hashF
    exact UInt8.xor_comm _ _
  have HK : Hid _ := hk
  have hlt := hM.lt
  clear hk
  go_enter Tryz.func117, Tryz.ntmps117
  go_wp2_with fail
  suffices H : ∀ W, SM w W w.heap.size g gc key (by8 J) z8 → Code.wp Tryz.prog _ _ _ W from H _ ⟨(hM.alloc _).alloc _, (Row.new _ _ _ _ _ rfl).alloc _, Row.new _ _ _ _ _ (by simp), hlt.1, hlt.2, ((Below.refl _ _).alloc (Nat.le_refl _) _).alloc (by simp) _⟩
  intro W hS
  clear hM
  have c0 := hS.m.ptr
  have q0 := heap_pos hS.r0
  have q1 := heap_pos hS.r1
  go_region_with (first
    | (go_at_call 114; refine (cip_f gc key HK.out J _ hS.drew.m.c).mono ?_; rintro e w1 ⟨rfl, b1⟩; have hS := hS.drew.keep b1; have q1 := heap_pos hS.r1)
    | (go_at_call 139; refine (ghash_any g gc key m b hm hb _ hS.m).mono ?_; rintro e w2 ⟨rfl, b2⟩; have hS := hS.keep b2; have q1 := heap_pos hS.r1)
    | (go_at_call 135; refine (bxor_any _ _ _).mono ?_; rintro e w3 ⟨rfl, b3⟩; have hS := hS.keep b3; have q1 := heap_pos hS.r1))
  all_goals
    go_wp2
    refine bodyPost_ret (res40 Tryz.results117 _ _ (w.heap.size + 1) _ rfl hS.r1.setRow) rfl ⟨by rw [← HT.out], ?_⟩
    exact Below.setRow hS.b (by omega) _

theorem ctr_zero (J : Nat → UInt8) (j : Nat) (hj : j < 16) : ctrF J 0 j = J j := by
  unfold ctrF
  by_cases h : j < 12
  · rw [if_pos h]
  · rw [if_neg h, Nat.add_zero, num4 _ _ (by omega)]
    have l0 := (J 12).toNat_lt
    have l1 := (J 13).toNat_lt
    have l2 := (J 14).toNat_lt
    have l3 := (J 15).toNat_lt
    simp only [valF]
    unfold numF
    apply UInt8.toNat_inj.1
    rw [UInt8.toNat_ofNat']
    rcases (by omega : j = 12 ∨ j = 13 ∨ j = 14 ∨ j = 15) with rfl | rfl | rfl | rfl
    · show ((((0 * 256 + (J 12).toNat) * 256 + (J 13).toNat) * 256 + (J 14).toNat) * 256 + (J 15).toNat) / 16777216 % 256 = _; omega
    · show ((((0 * 256 + (J 12).toNat) * 256 + (J 13).toNat) * 256 + (J 14).toNat) * 256 + (J 15).toNat) / 65536 % 256 = _; omega
    · show ((((0 * 256 + (J 12).toNat) * 256 + (J 13).toNat) * 256 + (J 14).toNat) * 256 + (J 15).toNat) / 256 % 256 = _; omega
    · show ((((0 * 256 + (J 12).toNat) * 256 + (J 13).toNat) * 256 + (J 14).toNat) * 256 + (J 15).toNat) / 1 % 256 = _; omega
theorem ctr_next (J : Nat → UInt8) (i j : Nat) (hj : j < 16) : nextF (ctrF J i) j = ctrF J (i + 1) j := by
  have hv : valF (ctrF J i) 12 4 = (valF J 12 4 + i) % 4294967296 := by
    rw [val_num4 ((valF J 12 4 + i) % 4294967296) 12 (ctrF J i) (fun k hk => by unfold ctrF; rw [if_neg (by omega), Nat.add_sub_cancel_left])]
    omega
  unfold nextF putF
  rw [hv]
  by_cases h : j < 12
  · rw [if_neg (by omega)]
    unfold ctrF
    rw [if_pos h, if_pos h]
  · rw [if_pos (by omega)]
    unfold ctrF
    rw [if_neg h, ← num4 _ _ (by omega)]
    congr 1
    omega
theorem aes_congr (k : Nat → UInt8) (n : Nat) {f g : Nat → UInt8} (h : ∀ j, j < 16 → f j = g j) (j : Nat) (hj : j < 16) : aesF k f n j = aesF k g n j := by
  have e := (aes_str k n f g).2 (str_congr h)
  have e2 := congrArg (fun s => sf s j) e
  rwa [sf_str _ _ _ hj, sf_str _ _ _ hj] at e2
structure SC (w0 w : World) (n g gc : Nat) (key : ByteArray) (J : Nat → UInt8) (s : ByteArray) (k c : Nat) (M : Nat → UInt8) : Prop where
  m : Mod w g gc key
  o : By w (n + 1) s.size (fun j => if j < k then sf s j ^^^ streamF key J j else sf s j)
  r2 : Row w (n + 1 + 1) 16 145 (by8 (ctrF J c))
  r3 : Row w (n + 1 + 1 + 1) 16 145 (by8 M)
  lg : g < n
  lc : gc < n
  b : Below n w0 w
theorem SC.drew {w0 w : World} {n g gc : Nat} {key : ByteArray} {J : Nat → UInt8} {s : ByteArray} {k c : Nat} {M : Nat → UInt8} (h : SC w0 w n g gc key J s k c M) : SC w0 w.drew n g gc key J s k c M := ⟨h.m.drew, h.o, h.r2, h.r3, h.lg, h.lc, h.b.drew⟩
theorem SC.keep {w0 w w1 : World} {n g gc : Nat} {key : ByteArray} {J : Nat → UInt8} {s : ByteArray} {k c : Nat} {M : Nat → UInt8} (h : SC w0 w n g gc key J s k c M) (hb : Below w.heap.size w w1) : SC w0 w1 n g gc key J s k c M :=
  ⟨h.m.keep hb, h.o.keep hb h.o.1, h.r2.keep hb h.r2.lt, h.r3.keep hb h.r3.lt, h.lg, h.lc, h.b.trans (hb.mono (by have := h.o.1; omega))⟩
theorem SC.cnt {w0 w : World} {n g gc : Nat} {key : ByteArray} {J : Nat → UInt8} {s : ByteArray} {k c : Nat} {M : Nat → UInt8} (h : SC w0 w n g gc key J s k c M) : SC w0 (w.setRow (n + 1 + 1) (arr 16 (by8 (nextF (ctrF J c))))) n g gc key J s k (c + 1) M :=
  have hc := Chg.setRow w (n + 1 + 1) (arr 16 (by8 (nextF (ctrF J c))))
  ⟨⟨h.m.r.chg hc (by have := h.lg; omega), Row.chg h.m.c hc (by have := h.lc; omega)⟩, h.o.chg hc (by omega), h.r2.setRow.congr (fun j hj => by simp only [by8]; rw [ctr_next J c j hj]), h.r3.chg hc (by omega), h.lg, h.lc, Below.chg h.b hc (by omega)⟩
theorem SC.mask {w0 w : World} {n g gc : Nat} {key : ByteArray} {J : Nat → UInt8} {s : ByteArray} {k c : Nat} {M M' : Nat → UInt8} (h : SC w0 w n g gc key J s k c M) : SC w0 (w.setRow (n + 1 + 1 + 1) (arr 16 (by8 M'))) n g gc key J s k c M' :=
  have hc := Chg.setRow w (n + 1 + 1 + 1) (arr 16 (by8 M'))
  ⟨⟨h.m.r.chg hc (by have := h.lg; omega), Row.chg h.m.c hc (by have := h.lc; omega)⟩, h.o.chg hc (by omega), h.r2.chg hc (by omega), h.r3.setRow, h.lg, h.lc, Below.chg h.b hc (by omega)⟩
theorem SC.put {w0 w : World} {n g gc : Nat} {key : ByteArray} {J : Nat → UInt8} {s : ByteArray} {k c : Nat} {M : Nat → UInt8} (h : SC w0 w n g gc key J s k c M) (hk : k < s.size) (x : UInt8) (hx : x = sf s k ^^^ streamF key J k) :
    SC w0 (w.setCell ⟨n + 1, k, none⟩ (.int .u8 x.toNat)) n g gc key J s (k + 1) c M :=
  ⟨⟨h.m.r.other (by have := h.lg; omega), Row.other h.m.c (by have := h.lc; omega)⟩, (h.o.set hk x).congr (fun j hj => by
    by_cases e : j = k
    · subst e
      rw [if_pos rfl, if_pos (by omega), hx]
    · rw [if_neg e]
      by_cases e2 : j < k
      · rw [if_pos e2, if_pos (by omega)]
      · rw [if_neg e2, if_neg (by omega)]), h.r2.other (by omega), h.r3.other (by omega), h.lg, h.lc, h.b.setCell (by simp) _⟩
end Go.Proofs.YtgalgjmhdbncbaaGreat
namespace Go.Proofs.YtgalgjmhdbncbaaGreat
open Go.RowKit
def Bs (v : Value) : Sem Value := convert 9 105 v
theorem bs_wrap (v : Value) : convert 9 105 v = Bs v := rfl
attribute [local go_sem ↓] Go.wp_at_zero Go.wp_at_succ
attribute [local go_sem ↓] ldw40 stw40 al40 bd40 bs_wrap
attribute [local go_sem] run_ldT40 ldN_row run_stT40 stN_row stN_z run_al40 run_bd40
attribute [local go_sem] blk_new blk_at blk_old blk_drew blk_setCell blk_setRow alloc_setRow

theorem mask_end (key : ByteArray) (J : Nat → UInt8) (s : ByteArray) : str s.size (fun j => if j < s.size then sf s j ^^^ streamF key J j else sf s j) = maskT key J s := by
  unfold maskT
  exact str_congr fun j hj => by rw [if_pos hj]
set_option maxRecDepth 100000 in
set_option maxHeartbeats 2000000 in
theorem crossed_any (g gc : Nat) (key s : ByteArray) (J : Nat → UInt8) (hk : KeyLen key.size) (hs : s.size ≤ 1000) (w : World) (hM : Mod w g gc key) :
    Calls Tryz.prog 116 #[.pointer (some ⟨g, 0, none⟩), .agg (arr 16 (by8 J)), .string s] w fun e w' => e = .returned (.string (maskT key J s)) ∧ Below w.heap.size w w' := by
  have HK : Hid _ := hk
  have hlt := hM.lt
  obtain ⟨cap, o, hcap, hrun, hBy⟩ := bs_run s (w.alloc (.cells (arr 16 (by8 J)) 145))
  rw [show (w.alloc (.cells (arr 16 (by8 J)) 145)).heap.size = w.heap.size + 1 by simp] at hrun hBy
  replace hrun : Sem.run Tryz.prog (Bs (.string s)) (w.alloc (.cells (arr 16 (by8 J)) 145)) = _ := hrun
  have HB : Hid _ := hBy
  clear hk hBy
  go_enter Tryz.func116, Tryz.ntmps116
  go_wp2_with fail
  clear hrun
  suffices H : ∀ W, SC w W w.heap.size g gc key J s 0 0 (fun _ => 0) → Code.wp Tryz.prog _ _ _ W from by
    refine H _ ?_
    have B1 : By ((w.alloc (.cells (arr 16 (by8 J)) 145)).alloc o) (w.heap.size + 1) s.size (sf s) := HB.out
    have z1 : ((w.alloc (.cells (arr 16 (by8 J)) 145)).alloc o).heap.size = w.heap.size + 1 + 1 := by simp
    have M2 := (((hM.alloc (.cells (arr 16 (by8 J)) 145)).alloc o).alloc (.cells (arr 16 z8) 145)).alloc (.cells (arr 16 z8) 145)
    have B2 := (B1.alloc (.cells (arr 16 z8) 145)).alloc (.cells (arr 16 z8) 145)
    have R2 := (Row.new ((w.alloc (.cells (arr 16 (by8 J)) 145)).alloc o) 16 145 z8 (w.heap.size + 1 + 1) (by simp)).alloc (.cells (arr 16 z8) 145)
    have R3 := Row.new (((w.alloc (.cells (arr 16 (by8 J)) 145)).alloc o).alloc (.cells (arr 16 z8) 145)) 16 145 z8 (w.heap.size + 1 + 1 + 1) (by simp)
    have L2 := ((((Below.refl w.heap.size w).alloc (Nat.le_refl _) (.cells (arr 16 (by8 J)) 145)).alloc (by simp) o).alloc (by simp; omega) (.cells (arr 16 z8) 145)).alloc (by simp; omega) (.cells (arr 16 z8) 145)
    generalize (((w.alloc (.cells (arr 16 (by8 J)) 145)).alloc o).alloc (.cells (arr 16 z8) 145)).alloc (.cells (arr 16 z8) 145) = W2 at *
    have hc1 := Chg.setRow W2.drew (w.heap.size + 1 + 1) (arr 16 (by8 J))
    have hc2 := Chg.setRow (W2.drew.setRow (w.heap.size + 1 + 1) (arr 16 (by8 J))) (w.heap.size + 1 + 1 + 1) (arr 16 z8)
    exact ⟨⟨(M2.drew.r.chg hc1 (by omega)).chg hc2 (by omega), Row.chg (Row.chg M2.drew.c hc1 (by omega)) hc2 (by omega)⟩,
      ((B2.drew.chg hc1 (by omega)).chg hc2 (by omega)).congr (fun j _ => by rw [if_neg (by omega)]),
      (R2.drew.setRow.chg hc2 (by omega)).congr (fun j hj => by simp only [by8]; rw [ctr_zero J j hj]),
      (R3.drew.chg hc1 (by omega)).setRow, hlt.1, hlt.2, Below.chg (Below.chg L2.drew hc1 (by omega)) hc2 (by omega)⟩
  intro W hS
  clear hM HB
  go_wp2_with fail
  go_loopw [10, 11, 18] (fun _ _ i wr => ∃ (k : Nat) (M : Nat → UInt8), k ≤ s.size ∧ i = .int .i64 k ∧ SC w wr w.heap.size g gc key J s k ((k + 15) / 16) M ∧ Hid (k % 16 ≠ 0 → ∀ j, j < 16 → M j = aesF (sf key) (ctrF J (k / 16 + 1)) key.size j)) (fun _ _ i _ => s.size - (intOf i).toNat)
  case atStart => exact ⟨0, _, by omega, rfl, hS, fun h => absurd rfl h⟩
  case round =>
    clear hS
    obtain ⟨k, M, hk, rfl, hS, HM⟩ := hrel
    by_cases hlk : k < s.size
    · obtain ⟨r, hr⟩ : ∃ r, k % 16 = r := ⟨_, rfl⟩
      have hr16 : r < 16 := by omega
      have hi : ((k : Int) % 16) = (r : Int) := by omega
      have HE2 : Hid ((k + 1 + 15) / 16 = k / 16 + 1) := by show _ = _; omega
      by_cases h0 : r = 0
      · subst h0
        rw [show (k + 15) / 16 = k / 16 by omega] at hS
        have hi : ((k : Int) % 16) = 0 := by omega
        have HX : Hid (streamF key J k = aesF (sf key) (ctrF J (k / 16 + 1)) key.size 0) := by show streamF key J k = _; unfold streamF; rw [hr]
        have HM2 : Hid ((k + 1) % 16 ≠ 0 → ∀ j, j < 16 → aesF (sf key) (ctrF J (k / 16 + 1)) key.size j = aesF (sf key) (ctrF J ((k + 1) / 16 + 1)) key.size j) := by
          intro h j hj
          rw [show (k + 1) / 16 = k / 16 by omega]
        clear HM hr hr16
        generalize k / 16 = c at *
        have q2 := heap_pos hS.r2
        go_wp2_with fail
        refine (next_any _ _).mono ?_
        rintro e w1 ⟨rfl, b1⟩
        have hS1 := hS.keep b1
        clear q2 hS b1
        have q2 := heap_pos hS1.r2
        go_wp2_with fail
        suffices H : ∀ W, SC w W w.heap.size g gc key J s k (c + 1) M → Code.wp Tryz.prog _ _ _ W from H _ hS1.cnt
        intro W2 hS2
        clear hS1 q2
        have c0 := hS2.m.ptr
        have q2 := heap_pos hS2.r2
        have q3 := heap_pos hS2.r3
        go_region_with (first
          | (go_at_call 114; refine (cip_f gc key HK.out (ctrF J (c + 1)) _ hS2.drew.m.c).mono ?_; rintro e w3 ⟨rfl, b3⟩; have hS3 := hS2.drew.keep b3; have q3 := heap_pos hS3.r3))
        all_goals
          clear c0 q2
          generalize hM' : aesF (sf key) (ctrF J (c + 1)) key.size = M' at *
          go_wp2_with fail
          suffices H : ∀ W, SC w W w.heap.size g gc key J s k (c + 1) M' → Code.wp Tryz.prog _ _ _ W from H _ hS3.mask
          intro W hS
          clear hS3 q3
          have c1 : W.cell? ⟨w.heap.size + 1, k, none⟩ = some (.int .u8 (sf s k).toNat) := by
            have := (hS.o.2 k hlk).1
            dsimp only at this
            rwa [if_neg (Nat.lt_irrefl k)] at this
          have f1 := (hS.o.2 k hlk).2
          have c3 : W.cell? ⟨w.heap.size + 1 + 1 + 1, 0, none⟩ = some (.int .u8 (M' 0).toNat) := hS.r3.cell 0 (by omega)
          go_region
          go_wp2
          rw [u8_xor_b]
          go_roundw
          case rel => exact ⟨k + 1, M', by omega, by go_num, by rw [HE2.out]; exact (SC.put hS hlk _ (by rw [HX.out])).drew, HM2⟩
          case measure => simp [intOf]; omega
      · rw [show (k + 15) / 16 = k / 16 + 1 by omega] at hS
        have hn0 : ((r : Int) == 0) = false := by rw [beq_eq_false_iff_ne]; omega
        have HX : Hid (streamF key J k = M r) := by show streamF key J k = _; unfold streamF; rw [hr, HM.out (by omega) r hr16]
        have HM2 : Hid ((k + 1) % 16 ≠ 0 → ∀ j, j < 16 → M j = aesF (sf key) (ctrF J ((k + 1) / 16 + 1)) key.size j) := by
          intro h j hj
          rw [show (k + 1) / 16 = k / 16 by omega]
          exact HM.out (by omega) j hj
        clear HM hr
        generalize k / 16 = c at *
        go_wp2_with fail
        have c1 : wr.cell? ⟨w.heap.size + 1, k, none⟩ = some (.int .u8 (sf s k).toNat) := by
          have := (hS.o.2 k hlk).1
          dsimp only at this
          rwa [if_neg (Nat.lt_irrefl k)] at this
        have f1 := (hS.o.2 k hlk).2
        have c3 : wr.cell? ⟨w.heap.size + 1 + 1 + 1, r, none⟩ = some (.int .u8 (M r).toNat) := hS.r3.cell r (by omega)
        go_region
        go_wp2
        rw [u8_xor_b]
        go_roundw
        case rel => exact ⟨k + 1, M, by omega, by go_num, by rw [HE2.out]; exact (SC.put hS hlk _ (by rw [HX.out])).drew, HM2⟩
        case measure => simp [intOf]; omega
    · have hks : k = s.size := by omega
      subst hks
      have hcv := conv_by wr (w.heap.size + 1) s.size cap _ hS.o
      have HE : Hid _ := mask_end key J s
      go_wp2
      go_ret
      exact ⟨by rw [← HE.out]; rfl, hS.b⟩
end Go.Proofs.YtgalgjmhdbncbaaGreat
