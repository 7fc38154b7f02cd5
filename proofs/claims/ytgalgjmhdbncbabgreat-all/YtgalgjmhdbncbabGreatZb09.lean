import Derived.Test.YtgalgjmhdbncbabGreatZb08
namespace Go.Proofs.YtgalgjmhdbncbabGreat
open Go.RowKit
attribute [local go_sem ↓] Go.wp_at_zero Go.wp_at_succ
attribute [local go_sem ↓] ldw40 ldw50 ldw60 ldw63 ldw52 stw40 stw50 stw63 stw52 al40 al50 al60 al62 al63 al52 bd50 bd55
attribute [local go_sem] run_ldT40 run_ldT50 run_ldT60 run_ldT63 run_ldT52 ldN_row run_stT40 run_stT50 run_stT63 run_stT52 stN_row stN_z run_al40 run_al50 run_al60 run_al62 run_al63 run_al52 run_bd50 run_bd55
attribute [local go_sem] blk_new blk_at blk_old blk_drew blk_setCell blk_setRow alloc_setRow

def ksF (key : Nat → UInt8) (n : Nat) : Nat → UInt8 := (kxR sbx key n ((16 * (n / 4 + 7) - n) / 4)).1

def Cip (w : World) (g r : Nat) (ks : Nat → UInt8) : Prop := Row w g 497 177 (ciph r ks sbx)

theorem schedule_k (s : ByteArray) (k : Nat) (h1 : 1 ≤ k) (h2 : k ≤ 3) (hs : s.size = 8 + 8 * k) (w : World) :
    Calls Tryz.prog 108 #[.string s, .int .i64 (8 + 2 * (k : Int)), .agg (arr 256 (by8 sbx))] w fun e w' =>
      e = .returned (.agg (arr 240 (by8 (ksF (sf s) s.size)))) ∧ Below w.heap.size w w' := by
  have h := schedule_any s (8 + 2 * k) (by omega) (by omega) sbx w
  rw [show ((8 + 2 * k : Nat) : Int) = 8 + 2 * (k : Int) by omega, show 8 + 2 * k + 1 = s.size / 4 + 7 by omega] at h
  exact h
theorem bd_k (k : Nat) (ks bx : Nat → UInt8) (w : World) : Sem.run Tryz.prog (Bd 177 #[(0, .int .i64 (8 + 2 * (k : Int))), (1, .agg (arr 240 (by8 ks))), (2, .agg (arr 256 (by8 bx)))]) w = .ok (.agg (arr 497 (ciph (8 + 2 * k) ks bx))) w := by
  have h := run_bd55 (8 + 2 * k) ks bx w
  rw [show ((8 + 2 * k : Nat) : Int) = 8 + 2 * (k : Int) by omega] at h
  exact h
set_option maxRecDepth 100000 in
set_option maxHeartbeats 1000000 in
theorem new_no (s : ByteArray) (hs : s.size ≤ maxLen) (h1 : s.size ≠ 16) (h2 : s.size ≠ 24) (h3 : s.size ≠ 32) (w : World) :
    Calls Tryz.prog 78 #[.string s] w fun e w' => e = .returned (.tuple #[.pointer none, .bool false]) ∧ w' = w := by
  have H1 : Hid _ := h1
  have H2 : Hid _ := h2
  have H3 : Hid _ := h3
  clear h1 h2 h3
  go_enter Tryz.func78, Tryz.ntmps78
  go_wp2_with fail
  refine (alg_any s hs _).mono ?_
  rintro e w1 ⟨he, hw⟩
  subst hw
  rcases he with ⟨k, hk1, hk2, hk3, rfl⟩ | ⟨_, _, _, rfl⟩
  · exfalso
    have : k = 1 ∨ k = 2 ∨ k = 3 := by omega
    rcases this with rfl | rfl | rfl
    · exact H1.out hk3
    · exact H2.out hk3
    · exact H3.out hk3
  · go_wp2
    go_ret2
    exact ⟨rfl, rfl⟩

set_option maxRecDepth 100000 in
set_option maxHeartbeats 1000000 in
theorem new_yes (s : ByteArray) (hs : s.size ≤ maxLen) (h : s.size = 16 ∨ s.size = 24 ∨ s.size = 32) (w : World) :
    Calls Tryz.prog 78 #[.string s] w fun e w' => ∃ g, e = .returned (.tuple #[.pointer (some ⟨g, 0, none⟩), .bool true]) ∧ w.heap.size ≤ g ∧ Cip w' g (s.size / 4 + 6) (ksF (sf s) s.size) ∧ Below w.heap.size w w' := by
  have H : Hid _ := h
  clear h
  go_enter Tryz.func78, Tryz.ntmps78
  go_wp2_with fail
  refine (alg_any s hs _).mono ?_
  rintro e w1 ⟨he, hw⟩
  subst hw
  rcases he with ⟨k, hk1, hk2, hk3, rfl⟩ | ⟨a1, a2, a3, rfl⟩
  · have HK : Hid _ := hk3
    clear hk3
    have hk0 : ((k : Int) == 0) = false := beq_eq_false_iff_ne.2 (by omega)
    go_wp2_with fail
    refine (sizes_any k hk1 hk2 _).mono ?_
    rintro e w2 ⟨rfl, hw⟩
    subst hw
    go_wp2_with fail
    refine (newSub_any _).mono ?_
    rintro e w3 ⟨rfl, hb3⟩
    have hbd := bd_k k
    go_wp2_with fail
    suffices HH : ∀ W, Row W w3.heap.size 256 172 (by8 sbx) → Below w2.heap.size w2 W → Code.wp Tryz.prog _ _ _ W from HH _ (Row.new _ _ _ _ _ rfl) (hb3.alloc hb3.size _)
    intro W rW bW
    have hsz := hb3.size
    clear hb3
    have qW := heap_pos rW
    go_region_with (first
      | (go_at_call 108; refine (schedule_k s k hk1 hk2 HK _).mono ?_; rintro e w4 ⟨rfl, hb4⟩; have bW4 := bW.drew.trans (hb4.mono bW.size); have qW4 := heap_pos (rW.drew.keep hb4 rW.lt)))
    all_goals
      go_wp2
      go_ret2
      refine ⟨w4.heap.size, rfl, bW4.size, ?_, bW4.alloc bW4.size _⟩
      have hk := HK.out
      rw [show s.size / 4 + 6 = 8 + 2 * k by omega]
      exact Row.new _ _ _ _ _ rfl
  · exfalso
    have := H.out
    omega

theorem Cip.tab {w : World} {g r : Nat} {ks : Nat → UInt8} (h : Cip w g r ks) : Tab w g 241 sbx := by
  refine ⟨Row.lt h, fun i hi => ?_⟩
  rw [Row.cell h (241 + i) (by omega)]
  unfold ciph
  rw [if_neg (by omega), if_neg (by omega), show 241 + i - 241 = i by omega]
  rfl
theorem Cip.rounds {w : World} {g r : Nat} {ks : Nat → UInt8} (h : Cip w g r ks) : w.cell? ⟨g, 0, none⟩ = some (.int .i64 r) := Row.cell h 0 (by omega)
theorem Cip.keep {w w1 : World} {g r : Nat} {ks : Nat → UInt8} (h : Cip w g r ks) (hb : Below w.heap.size w w1) : Cip w1 g r ks := Row.keep h hb (Row.lt h)
theorem Cip.pos {w : World} {g r : Nat} {ks : Nat → UInt8} (h : Cip w g r ks) : blk w g = some (.cells (arr 497 (ciph r ks sbx)) 177 (0, 0)) := h

def ssF (f : Nat → UInt8) (j : Nat) : UInt8 := sbx (f ((j + j % 4 * 4) % 16)).toNat
def stF (ks f : Nat → UInt8) : Nat → Nat → UInt8
  | 0 => fun j => f j ^^^ ks (16 * 0 + j)
  | i + 1 => fun j => mx (ssF (stF ks f i)) j ^^^ ks (16 * (i + 1) + j)
def encF (ks f : Nat → UInt8) (r : Nat) (j : Nat) : UInt8 := ssF (stF ks f (r - 1)) j ^^^ ks (16 * r + j)

structure S21 (w0 w : World) (n g r : Nat) (ks y : Nat → UInt8) : Prop where
  c : Cip w g r ks
  r0 : Row w n 16 141 (by8 y)
  r1 : Row w (n + 1) 16 141 z8
  b : Below n w0 w
theorem S21.drew {w0 w : World} {n g r : Nat} {ks y : Nat → UInt8} (h : S21 w0 w n g r ks y) : S21 w0 w.drew n g r ks y := ⟨h.c, h.r0, h.r1, h.b.drew⟩
theorem S21.keep {w0 w w1 : World} {n g r : Nat} {ks y : Nat → UInt8} (h : S21 w0 w n g r ks y) (hb : Below w.heap.size w w1) : S21 w0 w1 n g r ks y :=
  ⟨h.c.keep hb, h.r0.keep hb h.r0.lt, h.r1.keep hb h.r1.lt, h.b.trans (hb.mono (Nat.le_of_lt h.r0.lt))⟩

set_option maxRecDepth 100000 in
set_option maxHeartbeats 2000000 in
theorem cipher_any (g r : Nat) (ks f : Nat → UInt8) (hr : 2 ≤ r) (hr14 : r ≤ 14) (w : World) (hc : Cip w g r ks) :
    Calls Tryz.prog 80 #[.pointer (some ⟨g, 0, none⟩), .agg (arr 16 (by8 f))] w fun e w' => e = .returned (.agg (arr 16 (by8 (encF ks f r)))) ∧ Below w.heap.size w w' := by
  have hgw : g < w.heap.size := Row.lt hc
  have hk0 := fun w r' => ldN_key r ks sbx 0 w r' (by omega)
  go_enter Tryz.func80, Tryz.ntmps80
  go_wp2_with fail
  suffices HH : ∀ W, S21 w W w.heap.size g r ks f → Code.wp Tryz.prog _ _ _ W from HH _ ⟨(hc.alloc _).alloc _, (Row.new _ _ _ _ _ rfl).alloc _, Row.new _ _ _ _ _ (by simp), ((Below.refl _ _).alloc (Nat.le_refl _) _).alloc (by simp) _⟩
  intro W hS
  clear hc
  have qc := hS.c.pos
  have q0 := heap_pos hS.r0
  go_cut [5] (fun _ wx => S21 w wx w.heap.size g r ks (stF ks f 0))
  case first =>
    go_region_with (first
      | (go_at_call 109; refine (bxor_any _ _ _).mono ?_; rintro e w2 ⟨rfl, hb2⟩; have hS2 := hS.drew.keep hb2; have q0 := heap_pos hS2.r0))
    all_goals
      go_wp2
      go_meet
      refine ⟨Row.setRow_other hS2.c (by omega), hS2.r0.setRow.congr ?_, hS2.r1.setRow_other (by omega), Below.setRow hS2.b (Nat.le_refl _) _⟩
      intro j hj
      simp only [stF, by8, Nat.mul_zero, Nat.zero_add]
  case rest =>
    clear hS q0 qc
    have hS := hcut
    clear hcut
    have hk0' := hk0
    clear hk0 hk0'
    go_wp2_with fail
    go_loopw [5] (fun i wr => ∃ k : Nat, 1 ≤ k ∧ k ≤ r ∧ i = .int .i64 k ∧ S21 w wr w.heap.size g r ks (stF ks f (k - 1))) (fun i _ => r - (intOf i).toNat)
    case atStart => exact ⟨1, Nat.le_refl _, by omega, rfl, hS⟩
    case round =>
      clear hS
      obtain ⟨k, hk1, hk2, rfl, hS⟩ := hrel
      have cr := hS.c.rounds
      have qc := hS.c.pos
      by_cases hlt : k < r
      · have hkk := fun w r' => ldN_key r ks sbx k w r' (by omega)
        have q0 := heap_pos hS.r0
        have hst : stF ks f (k + 1 - 1) = fun j => mx (ssF (stF ks f (k - 1))) j ^^^ ks (16 * k + j) := by
          rw [show k + 1 - 1 = k - 1 + 1 by omega]
          funext j
          show mx (ssF (stF ks f (k - 1))) j ^^^ ks (16 * (k - 1 + 1) + j) = _
          rw [show k - 1 + 1 = k by omega]
        have HST : Hid _ := hst
        clear hst
        generalize stF ks f (k - 1) = y at *
        go_wp2_with fail
        go_region_with (first
          | (go_at_call 112; refine (subBlock_any g 241 sbx _ _ hS.drew.c.tab).mono ?_; rintro e w2 ⟨rfl, hb2⟩; have hS2 := hS.drew.keep hb2; have qc := hS2.c.pos)
          | (go_at_call 111; refine (shifted_any _ _).mono ?_; rintro e w3 ⟨rfl, hb3⟩; have hS3 := hS2.keep hb3; have qc := hS3.c.pos)
          | (go_at_call 110; refine (mixed_any _ _).mono ?_; rintro e w4 ⟨rfl, hb4⟩; have hS4 := hS3.keep hb4; have qc := hS4.c.pos)
          | (go_at_call 109; refine (bxor_any _ _ _).mono ?_; rintro e w5 ⟨rfl, hb5⟩; have hS5 := hS4.keep hb5; have q0 := heap_pos hS5.r0))
        all_goals
          go_wp2
          refine ⟨⟨k + 1, by omega, by omega, by go_num, ?_⟩, by simp [intOf]; omega⟩
          refine ⟨Row.setRow_other hS5.c (by omega), hS5.r0.setRow.congr ?_, hS5.r1.setRow_other (by omega), Below.setRow hS5.b (Nat.le_refl _) _⟩
          intro j hj
          rw [HST.out]
          rfl
      · have hkr : k = r := by omega
        subst hkr
        have hkk := fun w r' => ldN_key k ks sbx k w r' (by omega)
        have q0 := heap_pos hS.r0
        have hst : encF ks f k = fun j => ssF (stF ks f (k - 1)) j ^^^ ks (16 * k + j) := rfl
        have HST : Hid _ := hst
        clear hst
        generalize stF ks f (k - 1) = y at *
        have hki : (0 : Int) ≤ (k : Int) := by omega
        have hki2 : (k : Int) < 15 := by omega
        go_wp2_with fail
        go_region_with (first
          | (go_at_call 112; refine (subBlock_any g 241 sbx _ _ hS.drew.c.tab).mono ?_; rintro e w2 ⟨rfl, hb2⟩; have hS2 := hS.drew.keep hb2; have qc := hS2.c.pos; have cr := hS2.c.rounds)
          | (go_at_call 111; refine (shifted_any _ _).mono ?_; rintro e w3 ⟨rfl, hb3⟩; have hS3 := hS2.keep hb3; have qc := hS3.c.pos; have cr := hS3.c.rounds)
          | (go_at_call 109; refine (bxor_any _ _ _).mono ?_; rintro e w5 ⟨rfl, hb5⟩; have hS5 := hS3.keep hb5; have q1 := heap_pos hS5.r1))
        all_goals
          go_wp2
          refine bodyPost_ret (res40 Tryz.results80 _ _ (w.heap.size + 1) _ rfl hS5.r1.setRow) rfl ⟨by rw [HST.out]; rfl, ?_⟩
          exact Below.setRow hS5.b (by omega) _
end Go.Proofs.YtgalgjmhdbncbabGreat
namespace Go.Proofs.YtgalgjmhdbncbabGreat
open Go.RowKit
attribute [local go_sem ↓] Go.wp_at_zero Go.wp_at_succ
attribute [local go_sem ↓] ldw40 ldw50 ldw60 ldw63 ldw52 stw40 stw50 stw63 stw52 al40 al50 al60 al62 al63 al52 bd50 bd55
attribute [local go_sem] run_ldT40 run_ldT50 run_ldT60 run_ldT63 run_ldT52 ldN_row run_stT40 run_stT50 run_stT63 run_stT52 stN_row stN_z run_al40 run_al50 run_al60 run_al62 run_al63 run_al52 run_bd50 run_bd55
attribute [local go_sem] blk_new blk_at blk_old blk_drew blk_setCell blk_setRow alloc_setRow

def aesF (key f : Nat → UInt8) (n : Nat) : Nat → UInt8 := encF (ksF key n) f (n / 4 + 6)

set_option maxRecDepth 100000 in
set_option maxHeartbeats 1000000 in
theorem enc_key (key block : ByteArray) (hs : key.size ≤ maxLen) (h1 : key.size ≠ 16) (h2 : key.size ≠ 24) (h3 : key.size ≠ 32) (w : World) :
    Calls Tryz.prog 37 #[.string key, .string block] w fun e w' => e = .returned (.tuple #[.string ⟨#[]⟩, .int .i64 2]) ∧ Below w.heap.size w w' := by
  have H1 : Hid _ := h1
  have H2 : Hid _ := h2
  have H3 : Hid _ := h3
  clear h1 h2 h3
  go_enter Tryz.func37, Tryz.ntmps37
  go_wp2_with fail
  refine (new_no key hs H1 H2 H3 _).mono ?_
  rintro e w1 ⟨rfl, hw⟩
  subst hw
  go_wp2
  go_ret2
  exact ⟨rfl, Below.refl _ _⟩
set_option maxRecDepth 100000 in
set_option maxHeartbeats 1000000 in
theorem enc_size (key block : ByteArray) (hs : key.size ≤ maxLen) (h : key.size = 16 ∨ key.size = 24 ∨ key.size = 32) (hb : block.size ≠ 16) (w : World) :
    Calls Tryz.prog 37 #[.string key, .string block] w fun e w' => e = .returned (.tuple #[.string ⟨#[]⟩, .int .i64 5]) ∧ Below w.heap.size w w' := by
  have H : Hid _ := h
  have HB : Hid _ := hb
  clear h hb
  go_enter Tryz.func37, Tryz.ntmps37
  go_wp2_with fail
  refine (new_yes key hs H _).mono ?_
  rintro e w1 ⟨g, rfl, hg, hc, hb1⟩
  go_wp2_with fail
  refine (of_no _ _ HB).mono ?_
  rintro e w2 ⟨rfl, hb2⟩
  go_wp2
  go_ret2
  exact ⟨rfl, (hb1.trans (hb2.mono hb1.size)).alloc (by have := hb1.size; have := hb2.size; omega) _⟩
set_option maxRecDepth 100000 in
set_option maxHeartbeats 1000000 in
theorem enc_ok (key block : ByteArray) (hs : key.size ≤ maxLen) (h : key.size = 16 ∨ key.size = 24 ∨ key.size = 32) (hb : block.size = 16) (w : World) :
    Calls Tryz.prog 37 #[.string key, .string block] w fun e w' => e = .returned (.tuple #[.string (str 16 (aesF (sf key) (sf block) key.size)), .int .i64 0]) ∧ Below w.heap.size w w' := by
  have hr1 : 2 ≤ key.size / 4 + 6 := by omega
  have hr2 : key.size / 4 + 6 ≤ 14 := by omega
  have H : Hid _ := h
  have HB : Hid _ := hb
  clear h hb
  go_enter Tryz.func37, Tryz.ntmps37
  go_wp2_with fail
  refine (new_yes key hs H _).mono ?_
  rintro e w1 ⟨g, rfl, hg, hc, hb1⟩
  go_wp2_with fail
  refine (of_yes _ _ HB).mono ?_
  rintro e w2 ⟨rfl, hb2⟩
  have hc2 := hc.keep hb2
  have hcg : g < w2.heap.size := Row.lt hc2
  go_wp2_with fail
  refine (cipher_any g _ _ _ hr1 hr2 _ (hc2.alloc _)).mono ?_
  rintro e w3 ⟨rfl, hb3⟩
  go_wp2_with fail
  refine (text_any _ _).mono ?_
  rintro e w4 ⟨rfl, hb4⟩
  go_wp2
  go_ret2
  have z1 := hb1.size
  have z2 := hb2.size
  have z3 := hb3.size
  simp at z3
  exact ⟨rfl, (((hb1.trans (hb2.mono hb1.size)).alloc (by omega) _).trans (hb3.mono (by simp; omega))).trans (hb4.mono (by omega))⟩
end Go.Proofs.YtgalgjmhdbncbabGreat
