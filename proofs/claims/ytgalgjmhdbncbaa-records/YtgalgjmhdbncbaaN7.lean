import Derived.Test.YtgalgjmhdbncbaaN6
namespace Go.Proofs.Ytgalgjmhdbncbaa
open Go.RowKit
def Bs (v : Value) : Sem Value := convert 9 31 v
theorem bs_wrap (v : Value) : convert 9 31 v = Bs v := rfl
attribute [local go_sem ↓] Go.wp_at_zero Go.wp_at_succ
attribute [local go_sem ↓] ldw40 stw40 al40 bd40 bs_wrap
attribute [local go_sem] run_ldT40 ldN_row run_stT40 stN_row stN_z run_al40 run_bd40
attribute [local go_sem] blk_new blk_at blk_old blk_drew blk_setCell blk_setRow alloc_setRow

theorem mask_end (key : ByteArray) (J : Nat → UInt8) (s : ByteArray) : str s.size (fun j => if j < s.size then sf s j ^^^ streamF key J j else sf s j) = maskT key J s := by
  unfold maskT
  exact str_congr fun j hj => by rw [if_pos hj]
set_option maxRecDepth 100000 in
set_option maxHeartbeats 2000000 in
theorem crossed_any (g gc : Nat) (key s : ByteArray) (J : Nat → UInt8) (hk : KeyLen key.size) (hs : s.size ≤ 1000) (w : World) (hM : Mod w g gc key) :
    Calls Try.prog 66 #[.pointer (some ⟨g, 0, none⟩), .agg (arr 16 (by8 J)), .string s] w fun e w' => e = .returned (.string (maskT key J s)) ∧ Below w.heap.size w w' := by
  have HK : Hid _ := hk
  have hlt := hM.lt
  obtain ⟨cap, o, hcap, hrun, hBy⟩ := bs_run s (w.alloc (.cells (arr 16 (by8 J)) 53))
  rw [show (w.alloc (.cells (arr 16 (by8 J)) 53)).heap.size = w.heap.size + 1 by simp] at hrun hBy
  replace hrun : Sem.run Try.prog (Bs (.string s)) (w.alloc (.cells (arr 16 (by8 J)) 53)) = _ := hrun
  have HB : Hid _ := hBy
  clear hk hBy
  go_enter Try.func66, Try.ntmps66
  go_wp2_with fail
  clear hrun
  suffices H : ∀ W, SC w W w.heap.size g gc key J s 0 0 (fun _ => 0) → Code.wp Try.prog _ _ _ W from by
    refine H _ ?_
    have B1 : By ((w.alloc (.cells (arr 16 (by8 J)) 53)).alloc o) (w.heap.size + 1) s.size (sf s) := HB.out
    have z1 : ((w.alloc (.cells (arr 16 (by8 J)) 53)).alloc o).heap.size = w.heap.size + 1 + 1 := by simp
    have M2 := (((hM.alloc (.cells (arr 16 (by8 J)) 53)).alloc o).alloc (.cells (arr 16 z8) 53)).alloc (.cells (arr 16 z8) 53)
    have B2 := (B1.alloc (.cells (arr 16 z8) 53)).alloc (.cells (arr 16 z8) 53)
    have R2 := (Row.new ((w.alloc (.cells (arr 16 (by8 J)) 53)).alloc o) 16 53 z8 (w.heap.size + 1 + 1) (by simp)).alloc (.cells (arr 16 z8) 53)
    have R3 := Row.new (((w.alloc (.cells (arr 16 (by8 J)) 53)).alloc o).alloc (.cells (arr 16 z8) 53)) 16 53 z8 (w.heap.size + 1 + 1 + 1) (by simp)
    have L2 := ((((Below.refl w.heap.size w).alloc (Nat.le_refl _) (.cells (arr 16 (by8 J)) 53)).alloc (by simp) o).alloc (by simp; omega) (.cells (arr 16 z8) 53)).alloc (by simp; omega) (.cells (arr 16 z8) 53)
    generalize (((w.alloc (.cells (arr 16 (by8 J)) 53)).alloc o).alloc (.cells (arr 16 z8) 53)).alloc (.cells (arr 16 z8) 53) = W2 at *
    have hc1 := Chg.setRow W2.drew (w.heap.size + 1 + 1) (arr 16 (by8 J))
    have hc2 := Chg.setRow (W2.drew.setRow (w.heap.size + 1 + 1) (arr 16 (by8 J))) (w.heap.size + 1 + 1 + 1) (arr 16 z8)
    exact ⟨⟨(M2.drew.r.chg hc1 (by omega)).chg hc2 (by omega), Row.chg (Row.chg M2.drew.c hc1 (by omega)) hc2 (by omega)⟩,
      ((B2.drew.chg hc1 (by omega)).chg hc2 (by omega)).congr (fun j _ => by rw [if_neg (by omega)]),
      (R2.drew.setRow.chg hc2 (by omega)).congr (fun j hj => by simp only [by8]; rw [ctr_zero J j hj]),
      (R3.drew.chg hc1 (by omega)).setRow, hlt.1, hlt.2, Below.chg (Below.chg L2.drew hc1 (by omega)) hc2 (by omega)⟩
  intro W hS
  clear hM HB
  go_wp2_with fail
  go_loopw [10, 11, 18] (fun _ _ i wr => ∃ (k : Nat) (M : Nat → UInt8), k ≤ s.size ∧ i = .int .i64 k ∧ SC w wr w.heap.size g gc key J s k ((k + 15) / 16) M ∧ Hid (k % 16 ≠ 0 → ∀ j, j < 16 → M j = aesF (sf key) (ctrF J (k / 16 + 1)) key.size j)) (fun _ _ i _ => s.size - (intOf i).toNat)
  case atStart => exact ⟨0, _, by omega, rfl, hS, fun h => absurd rfl h⟩
  case round =>
    clear hS
    obtain ⟨k, M, hk, rfl, hS, HM⟩ := hrel
    by_cases hlk : k < s.size
    · obtain ⟨r, hr⟩ : ∃ r, k % 16 = r := ⟨_, rfl⟩
      have hr16 : r < 16 := by omega
      have hi : ((k : Int) % 16) = (r : Int) := by omega
      have HE2 : Hid ((k + 1 + 15) / 16 = k / 16 + 1) := by show _ = _; omega
      by_cases h0 : r = 0
      · subst h0
        rw [show (k + 15) / 16 = k / 16 by omega] at hS
        have hi : ((k : Int) % 16) = 0 := by omega
        have HX : Hid (streamF key J k = aesF (sf key) (ctrF J (k / 16 + 1)) key.size 0) := by show streamF key J k = _; unfold streamF; rw [hr]
        have HM2 : Hid ((k + 1) % 16 ≠ 0 → ∀ j, j < 16 → aesF (sf key) (ctrF J (k / 16 + 1)) key.size j = aesF (sf key) (ctrF J ((k + 1) / 16 + 1)) key.size j) := by
          intro h j hj
          rw [show (k + 1) / 16 = k / 16 by omega]
        clear HM hr hr16
        generalize k / 16 = c at *
        have q2 := heap_pos hS.r2
        go_wp2_with fail
        refine (next_any _ _).mono ?_
        rintro e w1 ⟨rfl, b1⟩
        have hS1 := hS.keep b1
        clear q2 hS b1
        have q2 := heap_pos hS1.r2
        go_wp2_with fail
        suffices H : ∀ W, SC w W w.heap.size g gc key J s k (c + 1) M → Code.wp Try.prog _ _ _ W from H _ hS1.cnt
        intro W2 hS2
        clear hS1 q2
        have c0 := hS2.m.ptr
        have q2 := heap_pos hS2.r2
        have q3 := heap_pos hS2.r3
        go_region_with (first
          | (go_at_call 37; refine (cip_f gc key HK.out (ctrF J (c + 1)) _ hS2.drew.m.c).mono ?_; rintro e w3 ⟨rfl, b3⟩; have hS3 := hS2.drew.keep b3; have q3 := heap_pos hS3.r3))
        all_goals
          clear c0 q2
          generalize hM' : aesF (sf key) (ctrF J (c + 1)) key.size = M' at *
          go_wp2_with fail
          suffices H : ∀ W, SC w W w.heap.size g gc key J s k (c + 1) M' → Code.wp Try.prog _ _ _ W from H _ hS3.mask
          intro W hS
          clear hS3 q3
          have c1 : W.cell? ⟨w.heap.size + 1, k, none⟩ = some (.int .u8 (sf s k).toNat) := by
            have := (hS.o.2 k hlk).1
            dsimp only at this
            rwa [if_neg (Nat.lt_irrefl k)] at this
          have f1 := (hS.o.2 k hlk).2
          have c3 : W.cell? ⟨w.heap.size + 1 + 1 + 1, 0, none⟩ = some (.int .u8 (M' 0).toNat) := hS.r3.cell 0 (by omega)
          go_region
          go_wp2
          rw [u8_xor_b]
          go_roundw
          case rel => exact ⟨k + 1, M', by omega, by go_num, by rw [HE2.out]; exact (SC.put hS hlk _ (by rw [HX.out])).drew, HM2⟩
          case measure => simp [intOf]; omega
      · rw [show (k + 15) / 16 = k / 16 + 1 by omega] at hS
        have hn0 : ((r : Int) == 0) = false := by rw [beq_eq_false_iff_ne]; omega
        have HX : Hid (streamF key J k = M r) := by show streamF key J k = _; unfold streamF; rw [hr, HM.out (by omega) r hr16]
        have HM2 : Hid ((k + 1) % 16 ≠ 0 → ∀ j, j < 16 → M j = aesF (sf key) (ctrF J ((k + 1) / 16 + 1)) key.size j) := by
          intro h j hj
          rw [show (k + 1) / 16 = k / 16 by omega]
          exact HM.out (by omega) j hj
        clear HM hr
        generalize k / 16 = c at *
        go_wp2_with fail
        have c1 : wr.cell? ⟨w.heap.size + 1, k, none⟩ = some (.int .u8 (sf s k).toNat) := by
          have := (hS.o.2 k hlk).1
          dsimp only at this
          rwa [if_neg (Nat.lt_irrefl k)] at this
        have f1 := (hS.o.2 k hlk).2
        have c3 : wr.cell? ⟨w.heap.size + 1 + 1 + 1, r, none⟩ = some (.int .u8 (M r).toNat) := hS.r3.cell r (by omega)
        go_region
        go_wp2
        rw [u8_xor_b]
        go_roundw
        case rel => exact ⟨k + 1, M, by omega, by go_num, by rw [HE2.out]; exact (SC.put hS hlk _ (by rw [HX.out])).drew, HM2⟩
        case measure => simp [intOf]; omega
    · have hks : k = s.size := by omega
      subst hks
      have hcv := conv_by wr (w.heap.size + 1) s.size cap _ hS.o
      have HE : Hid _ := mask_end key J s
      go_wp2
      go_ret
      exact ⟨by rw [← HE.out]; rfl, hS.b⟩
end Go.Proofs.Ytgalgjmhdbncbaa
