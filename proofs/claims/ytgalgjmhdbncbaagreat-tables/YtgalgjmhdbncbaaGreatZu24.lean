import Derived.Test.YtgalgjmhdbncbaaGreatZu23
import Derived.Test.YtgalgjmhdbncbaaGreatZu11
namespace Go.Proofs.YtgalgjmhdbncbaaGreat
open Go.RowKit
attribute [local go_sem ↓] Go.wp_at_zero Go.wp_at_succ
attribute [local go_sem ↓] cv_wrap
attribute [local go_sem] run_cv cvRes_row cvRes_z blk_new blk_at blk_old blk_drew

theorem numF_step (v k : Nat) : str 1 (fun _ => UInt8.ofNat (v / 256 ^ k)) ++ str k (numF v k) = str (k + 1) (numF v (k + 1)) := by
  apply bytes_ext
  · rw [ByteArray.size_append, str_size, str_size, str_size]; omega
  · intro j hj
    rw [ByteArray.size_append, str_size, str_size] at hj
    rw [sf_append, str_size, sf_str (k + 1) _ j (by omega)]
    by_cases h : j < 1
    · rw [if_pos h, sf_str _ _ _ h]
      have : j = 0 := by omega
      subst this
      rfl
    · rw [if_neg h, sf_str _ _ _ (by omega)]
      unfold numF
      rw [show k + 1 - 1 - j = k - 1 - (j - 1) by omega]

set_option maxRecDepth 100000 in
set_option maxHeartbeats 1000000 in
theorem number_ref (v n : Nat) (hv : v < 9223372036854775808) (hn : n ≤ 1000) (w : World) : Calls Tryz.prog 108 #[.int .i64 v, .int .i64 n] w fun e w' => e = .returned (.string (numT v n)) ∧ Below w.heap.size w w' := by
  go_enter Tryz.func108, Tryz.ntmps108
  go_wp2
  go_loopw [0, 5, 6] (fun x t i wr => ∃ k u : Nat, Hid (u = v / 256 ^ k) ∧ u < 9223372036854775808 ∧ k ≤ n ∧ x = .int .i64 u ∧ i = .int .i64 k ∧ t = .string (str k (numF v k)) ∧ Below w.heap.size w wr) (fun _ _ i _ => n - (intOf i).toNat)
  case atStart => exact ⟨0, v, by show v = v / 256 ^ 0; simp, hv, by omega, rfl, rfl, rfl, Below.refl _ _⟩
  case round =>
    obtain ⟨k, u, HU, hu, hk, rfl, rfl, rfl, hB⟩ := hrel
    by_cases hlt : k < n
    · have hz := str_size k (numF v k)
      have hz1 := str_size 1 (fun _ => UInt8.ofNat u)
      have hcv : ((UInt8.ofNat u).toNat : Int) = (u : Int) % 256 := by
        rw [UInt8.toNat_ofNat']; omega
      have hc1 : ∀ w r, cvRes (some (.cells #[.int .u8 ((u : Int) % 256)] 5 (0, 0))) 1 w r = .ok (.string (str 1 fun _ => UInt8.ofNat u)) w := by
        rw [← hcv]
        exact fun w r => cvRes_row 1 5 (fun _ => UInt8.ofNat u) w r
      clear hcv
      have hst : str 1 (fun _ => UInt8.ofNat u) ++ str k (numF v k) = str (k + 1) (numF v (k + 1)) := by
        rw [HU.out]; exact numF_step v k
      have HQ : Hid (u / 256 = v / 256 ^ (k + 1)) := by
        show u / 256 = _
        rw [HU.out, Nat.div_div_eq_div_mul, Nat.pow_succ]
      have hq : u / 256 < 9223372036854775808 := by omega
      go_wp2
      go_roundw
      case rel => exact ⟨k + 1, u / 256, HQ, hq, by omega, by go_num, by go_num, rfl, hB.alloc hB.size _⟩
      case measure => simp [intOf]; omega
    · have h16 : k = n := by omega
      subst h16
      go_wp2
      go_ret
      exact ⟨rfl, hB⟩
end Go.Proofs.YtgalgjmhdbncbaaGreat
namespace Go.Proofs.YtgalgjmhdbncbaaGreat
open Go.RowKit
attribute [local go_sem ↓] Go.wp_at_zero Go.wp_at_succ

set_option maxRecDepth 100000 in
set_option maxHeartbeats 1000000 in
theorem inverses_ref (w : World) : Calls Tryz.prog 152 #[] w fun e w' => ∃ g, e = .returned (.slice (some ⟨g, 0, none⟩) 256 256) ∧ w.heap.size ≤ g ∧ Pre w' g 256 (ivF 255) ∧ Below w.heap.size w w' := by
  have hm : ∀ w, (Instr.makeSlice 213 (.int .i64 256) (.int .i64 256)).run Tryz.prog w = .ok (.slice (some ⟨w.heap.size, 0, none⟩) 256 256) (w.alloc (.cells (arr 256 (in8 fun _ => 0)) 3)) := fun w => mk3 256 (by omega) w
  go_enter Tryz.func152, Tryz.ntmps152
  go_wp2
  go_loopw [1, 2, 3] (fun v p i wr => ∃ k : Nat, k ≤ 255 ∧ i = .int .i64 k ∧ p = .int .i64 (pw k).toNat ∧ Own wr w.heap.size v k pw ∧ Below w.heap.size w wr) (fun _ _ i _ => 255 - (intOf i).toNat)
  case atStart => exact ⟨0, by omega, rfl, rfl, Own.nil _ _ _, Below.refl _ _⟩
  case round =>
    obtain ⟨k, hk, rfl, rfl, ho, hB⟩ := hrel
    by_cases hlt : k < 255
    · go_wp2_with (first
        | (at_builtin; refine ap1 rfl _ _ rfl w.heap.size k _ pw rfl ho (pw k) rfl (by omega) hB.size ?_; intro v' w' ho' hb')
        | (go_at_call 144; refine (times_x3 _ _).mono ?_; rintro e w2 ⟨rfl, hw⟩; subst hw))
      go_roundw
      case rel => exact ⟨k + 1, by omega, by go_num, rfl, ho'.congr (fun j hj => by split <;> simp_all), hB.trans hb'⟩
      case measure => simp [intOf]; omega
    · have h5 : k = 255 := by omega
      subst h5
      obtain ⟨g, cap, rfl, hg1, hg2, hg3, hg4⟩ := ho.got (by omega)
      have hp : Pre wr g 255 pw := ⟨hg2, hg4⟩
      have hwz := hB.size
      clear hg4 ho
      go_wp2
      go_loopw [5] (fun i wx => ∃ k : Nat, k ≤ 255 ∧ i = .int .i64 k ∧ Pre wx g 255 pw ∧ Row wx wr.heap.size 256 3 (in8 (ivF k)) ∧ Below w.heap.size w wx) (fun i _ => 255 - (intOf i).toNat)
      case atStart =>
        exact ⟨0, by omega, rfl, hp.alloc _, Row.congr (Row.new _ _ _ _ _ rfl) (fun j hj => by simp only [in8]; rw [ivF_zero j hj]), hB.alloc hB.size _⟩
      case round =>
        clear hp hB
        obtain ⟨k, hk, rfl, hp, r, hB⟩ := hrel
        have hc3 : (255 : Int) ≤ (cap : Int) := by omega
        by_cases hlt : k < 255
        · have c0 := hp.2 k hlt
          have c1 : wr.cell? ⟨g, (-(k : Int) % 255).toNat, none⟩ = some (.int .i64 (pw ((255 - k) % 255)).toNat) := by
            rw [show (-(k : Int) % 255).toNat = (255 - k) % 255 by omega]
            exact hp.2 _ (by omega)
          have c2 := r.cell (pw k).toNat (pw k).toNat_lt
          have f2 := r.frozen (pw k).toNat
          have hb : ((pw k).toNat : Int) < 256 := by have := (pw k).toNat_lt; omega
          have HS := ivF_succ k
          have HS' : Hid _ := HS
          clear HS
          go_wp2
          go_region
          go_wp2
          refine ⟨⟨k + 1, by omega, by go_num, (hp.other (by omega)).drew, ((r.set (pw k).toNat _).congr ?_).drew, (hB.setCell (by simp; omega) _).drew⟩, by simp [intOf]; omega⟩
          intro j hj
          simp only [in8]
          rw [HS'.out j hj]
          split <;> rfl
        · have h5 : k = 255 := by omega
          subst h5
          go_wp2
          go_ret
          exact ⟨_, rfl, by omega, ⟨r.lt, fun j hj => r.cell j hj⟩, hB⟩

set_option maxRecDepth 100000 in
set_option maxHeartbeats 1000000 in
theorem boxes_ref (w : World) : Calls Tryz.prog 142 #[] w fun e w' => ∃ g cap, e = .returned (.slice (some ⟨g, 0, none⟩) 256 cap) ∧ 256 ≤ cap ∧ w.heap.size ≤ g ∧ Pre w' g 256 sbx ∧ Below w.heap.size w w' := by
  go_enter Tryz.func142, Tryz.ntmps142
  go_wp2_with fail
  refine (inverses_ref _).mono ?_
  rintro e w1 ⟨g, rfl, hg, hp, hb1⟩
  go_wp2_with fail
  have hgz := hp.1
  go_loopw [2, 3] (fun v i wr => ∃ k : Nat, k ≤ 256 ∧ i = .int .i64 k ∧ Own wr w1.heap.size v k sbx ∧ Below w1.heap.size w1 wr) (fun _ i _ => 256 - (intOf i).toNat)
  case atStart => exact ⟨0, by omega, rfl, Own.nil _ _ _, Below.refl _ _⟩
  case round =>
    obtain ⟨k, hk, rfl, ho, hB⟩ := hrel
    by_cases hlt : k < 256
    · have c0 := (hp.keep hB hgz).2 k hlt
      have HS : Hid _ := iv_sbx k hlt
      go_wp2_with (first
        | (go_at_call 153; refine (box_ref _ _).mono ?_; rintro e w2 ⟨rfl, hw⟩; subst hw)
        | (at_builtin; refine ap1 rfl _ _ rfl w1.heap.size k _ sbx rfl ho (spr (ivF 255 k) 5) rfl (by omega) hB.size ?_; intro v' w' ho' hb'))
      go_roundw
      case rel =>
        refine ⟨k + 1, by omega, by go_num, ho'.congr (fun j hj => ?_), hB.trans hb'⟩
        by_cases hjk : j = k
        · subst hjk; rw [if_pos rfl, HS.out]
        · rw [if_neg hjk]
      case measure => simp [intOf]; omega
    · have h5 : k = 256 := by omega
      subst h5
      obtain ⟨g', cap, rfl, hg1, hg2, hg3, hg4⟩ := ho.got (by omega)
      have hp' : Pre wr g' 256 sbx := ⟨hg2, hg4⟩
      clear hg4 ho
      go_wp2
      go_ret
      exact ⟨g', cap, rfl, hg3, by have := hb1.size; omega, hp', hb1.trans (hB.mono hb1.size)⟩
end Go.Proofs.YtgalgjmhdbncbaaGreat
