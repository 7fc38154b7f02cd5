import Derived.Test.YtgalgjmhdbncbaaGreatZu22
import Derived.Test.YtgalgjmhdbncbaaGreatZu10
import Derived.Test.YtgalgjmhdbncbaaGreatZu05
namespace Go.Proofs.YtgalgjmhdbncbaaGreat
open Go.RowKit

def Pre (w : World) (g n : Nat) (f : Nat → UInt8) : Prop := g < w.heap.size ∧ ∀ j, j < n → w.cell? ⟨g, j, none⟩ = some (.int .i64 (f j).toNat)
theorem Pre.keep {w w1 : World} {g n B : Nat} {f : Nat → UInt8} (h : Pre w g n f) (hb : Below B w w1) (hg : g < B) : Pre w1 g n f :=
  ⟨Nat.lt_of_lt_of_le h.1 hb.size, fun j hj => by rw [hb.cell (p := ⟨g, j, none⟩) hg]; exact h.2 j hj⟩
theorem Pre.other {w : World} {g n m o : Nat} {v : Value} {f : Nat → UInt8} (h : Pre w g n f) (hm : g ≠ m) : Pre (w.setCell ⟨m, o, none⟩ v) g n f :=
  ⟨by simpa [World.setCell] using h.1, fun j hj => by rw [World.cell?_of_block (w := w) (heap_skip w m g o v hm)]; exact h.2 j hj⟩
theorem Pre.drew {w : World} {g n : Nat} {f : Nat → UInt8} (h : Pre w g n f) : Pre w.drew g n f := h
theorem Pre.drewN {w : World} {g n : Nat} {f : Nat → UInt8} (h : Pre w g n f) (q : Nat) : Pre (w.drewN q) g n f := h
theorem Pre.alloc {w : World} {g n : Nat} {f : Nat → UInt8} (h : Pre w g n f) (o : Obj) : Pre (w.alloc o) g n f := h.keep ((Below.refl w.heap.size w).alloc (Nat.le_refl _) o) h.1
theorem made3 (n : Nat) : madeCells #[Value.int .i64 0] n = arr n (in8 fun _ => 0) := by
  apply Array.ext_getElem?
  intro i
  by_cases h : i < n
  · rw [arr_get _ _ _ h]; simp [madeCells, h, Nat.mod_one, in8]
  · simp [madeCells, arr, h]
theorem mk3 (n : Nat) (h : n ≤ 100000) (w : World) : (Instr.makeSlice 213 (.int .i64 (n : Int)) (.int .i64 (n : Int))).run Tryz.prog w = .ok (.slice (some ⟨w.heap.size, 0, none⟩) n n) (w.alloc (.cells (arr n (in8 fun _ => 0)) 3)) := by
  have := run_make_row' (P := Tryz.prog) 213 3 (.int .i64 0) 8 Tryz.underlying213 info3 rfl .i64 .i64 n (by omega) (by omega) w
  rw [made3] at this
  exact this

theorem tm3 : ∀ n : Fin 256, (tmS n.val 3 8).1 = (UInt8.ofNat n.val ^^^ dbl (UInt8.ofNat n.val)).toNat := by decide +kernel
theorem tm2 : ∀ n : Fin 256, (tmS n.val 2 8).1 = (dbl (UInt8.ofNat n.val)).toNat := by decide +kernel
theorem mt3 : ∀ n : Fin 256, (tmS 3 n.val 8).1 = (UInt8.ofNat n.val ^^^ dbl (UInt8.ofNat n.val)).toNat := by decide +kernel
theorem mt2 : ∀ n : Fin 256, (tmS 2 n.val 8).1 = (dbl (UInt8.ofNat n.val)).toNat := by decide +kernel
theorem times_x3 (b : UInt8) (w : World) : Calls Tryz.prog 144 #[.int .i64 b.toNat, .int .i64 3] w fun e w' => e = .returned (.int .i64 (b ^^^ dbl b).toNat) ∧ w' = w := by
  have h := times_ref b.toNat 3 b.toNat_lt (by omega) w
  have e := tm3 ⟨b.toNat, b.toNat_lt⟩
  simp only [UInt8.ofNat_toNat] at e
  rw [e] at h
  exact h
theorem times_x2 (b : UInt8) (w : World) : Calls Tryz.prog 144 #[.int .i64 b.toNat, .int .i64 2] w fun e w' => e = .returned (.int .i64 (dbl b).toNat) ∧ w' = w := by
  have h := times_ref b.toNat 2 b.toNat_lt (by omega) w
  have e := tm2 ⟨b.toNat, b.toNat_lt⟩
  simp only [UInt8.ofNat_toNat] at e
  rw [e] at h
  exact h
theorem times_3x (b : UInt8) (w : World) : Calls Tryz.prog 144 #[.int .i64 3, .int .i64 b.toNat] w fun e w' => e = .returned (.int .i64 (b ^^^ dbl b).toNat) ∧ w' = w := by
  have h := times_ref 3 b.toNat (by omega) b.toNat_lt w
  have e := mt3 ⟨b.toNat, b.toNat_lt⟩
  simp only [UInt8.ofNat_toNat] at e
  rw [e] at h
  exact h
theorem times_2x (b : UInt8) (w : World) : Calls Tryz.prog 144 #[.int .i64 2, .int .i64 b.toNat] w fun e w' => e = .returned (.int .i64 (dbl b).toNat) ∧ w' = w := by
  have h := times_ref 2 b.toNat (by omega) b.toNat_lt w
  have e := mt2 ⟨b.toNat, b.toNat_lt⟩
  simp only [UInt8.ofNat_toNat] at e
  rw [e] at h
  exact h

theorem rot_step : ∀ k : Fin 5, ∀ n : Fin 256, (((rotl (UInt8.ofNat n.val) k.val).toNat : Nat) : Int) * 2 % 256 + (((rotl (UInt8.ofNat n.val) k.val).toNat : Nat) : Int) / 128 = ((rotl (UInt8.ofNat n.val) (k.val + 1)).toNat : Int) := by decide +kernel
theorem rot_zero : ∀ n : Fin 256, rotl (UInt8.ofNat n.val) 0 = UInt8.ofNat n.val := by decide +kernel
set_option maxRecDepth 100000 in
set_option maxHeartbeats 400000 in
theorem box_ref (b : UInt8) (w : World) : Calls Tryz.prog 153 #[.int .i64 b.toNat] w fun e w' => e = .returned (.int .i64 (spr b 5).toNat) ∧ w' = w := by
  have hr := fun k => rot_step k ⟨b.toNat, b.toNat_lt⟩
  have h0 := rot_zero ⟨b.toNat, b.toNat_lt⟩
  simp only [UInt8.ofNat_toNat] at hr h0
  have HR : Hid _ := hr
  have H0 : Hid _ := h0
  clear hr h0
  go_enter Tryz.func153, Tryz.ntmps153
  go_wp2
  go_loop [0, 3, 4] (fun x s i => ∃ k : Nat, k ≤ 5 ∧ i = .int .i64 k ∧ s = .int .i64 (spr b k).toNat ∧ x = .int .i64 (rotl b k).toNat) (fun _ _ i => 5 - (intOf i).toNat)
  case atStart => exact ⟨0, by omega, rfl, rfl, by rw [H0.out]⟩
  case round =>
    obtain ⟨k, hk, rfl, rfl, rfl⟩ := hrel
    by_cases hlt : k < 5
    · have e := HR.out ⟨k, hlt⟩
      have HE : Hid _ := e
      clear e
      have hx := (rotl b k).toNat_lt
      have hy : ((rotl b k).toNat : Int) < 256 := by omega
      go_wp2
      go_round
      case rel => exact ⟨k + 1, by omega, by go_num, by rw [i64_xor_b]; rfl, by rw [← HE.out]⟩
      case measure => simp [intOf]; omega
    · have h5 : k = 5 := by omega
      subst h5
      go_wp2
      go_ret
      exact ⟨rfl, rfl⟩

def ivL : Nat → List UInt8
  | 0 => List.replicate 256 0
  | k + 1 => (ivL k).set (pw k).toNat (pw ((255 - k) % 255))
theorem ivL_length : ∀ k, (ivL k).length = 256
  | 0 => by unfold ivL; rw [List.length_replicate]
  | k + 1 => by unfold ivL; rw [List.length_set, ivL_length k]
def ivF (k j : Nat) : UInt8 := (ivL k).getD j 0
theorem ivF_zero (j : Nat) (hj : j < 256) : ivF 0 j = 0 := by
  unfold ivF ivL
  rw [List.getD_eq_getElem?_getD, List.getElem?_replicate, if_pos hj]; rfl
theorem ivF_succ (k j : Nat) (hj : j < 256) : ivF (k + 1) j = if j = (pw k).toNat then pw ((255 - k) % 255) else ivF k j := by
  have hl := ivL_length k
  unfold ivF
  simp only [ivL, List.getD_eq_getElem?_getD, List.getElem?_set]
  by_cases h : j = (pw k).toNat
  · rw [if_pos h, if_pos h.symm, if_pos (by omega)]; rfl
  · rw [if_neg h, if_neg (fun e => h e.symm)]
def ivLit : List UInt8 := [0, 1, 141, 246, 203, 82, 123, 209, 232, 79, 41, 192, 176, 225, 229, 199, 116, 180, 170, 75, 153, 43, 96, 95, 88, 63, 253, 204, 255, 64, 238, 178, 58, 110, 90, 241, 85, 77, 168, 201, 193, 10, 152, 21, 48, 68, 162, 194, 44, 69, 146, 108, 243, 57, 102, 66, 242, 53, 32, 111, 119, 187, 89, 25, 29, 254, 55, 103, 45, 49, 245, 105, 167, 100, 171, 19, 84, 37, 233, 9, 237, 92, 5, 202, 76, 36, 135, 191, 24, 62, 34, 240, 81, 236, 97, 23, 22, 94, 175, 211, 73, 166, 54, 67, 244, 71, 145, 223, 51, 147, 33, 59, 121, 183, 151, 133, 16, 181, 186, 60, 182, 112, 208, 6, 161, 250, 129, 130, 131, 126, 127, 128, 150, 115, 190, 86, 155, 158, 149, 217, 247, 2, 185, 164, 222, 106, 50, 109, 216, 138, 132, 114, 42, 20, 159, 136, 249, 220, 137, 154, 251, 124, 46, 195, 143, 184, 101, 72, 38, 200, 18, 74, 206, 231, 210, 98, 12, 224, 31, 239, 17, 117, 120, 113, 165, 142, 118, 61, 189, 188, 134, 87, 11, 40, 47, 163, 218, 212, 228, 15, 169, 39, 83, 4, 27, 252, 172, 230, 122, 7, 174, 99, 197, 219, 226, 234, 148, 139, 196, 213, 157, 248, 144, 107, 177, 13, 214, 235, 198, 14, 207, 173, 8, 78, 215, 227, 93, 80, 30, 179, 91, 35, 56, 52, 104, 70, 3, 140, 221, 156, 125, 160, 205, 26, 65, 28]
set_option maxRecDepth 100000 in
theorem ivL_lit : ivL 255 = ivLit := by decide +kernel
set_option maxRecDepth 100000 in
theorem iv_box : ∀ j : Fin 256, spr (ivLit.getD j.val 0) 5 = sbG j.val := by decide +kernel
theorem iv_sbx (j : Nat) (hj : j < 256) : spr (ivF 255 j) 5 = sbx j := by
  unfold ivF
  rw [ivL_lit, sbx_eq]
  exact iv_box ⟨j, hj⟩
end Go.Proofs.YtgalgjmhdbncbaaGreat
namespace Go.Proofs.YtgalgjmhdbncbaaGreat
open Go.RowKit
attribute [local go_sem ↓] Go.wp_at_zero Go.wp_at_succ
attribute [local go_sem ↓] cv_wrap
attribute [local go_sem] run_cv cvRes_row cvRes_z blk_new blk_at blk_old blk_drew

def b2u (b : Bool) : UInt8 := if b then 1 else 0
theorem bit_of : ∀ q : Fin 8, ∀ n : Fin 256, (n.val : Int) / ((128 / 2 ^ q.val : Nat) : Int) % 2 = ((b2u ((UInt8.ofNat n.val).toBitVec.getLsbD (7 - q.val))).toNat : Int) := by decide +kernel
theorem bit_cB (f : Nat → UInt8) (i q : Nat) (hq : q < 8) : ((f i).toNat : Int) / ((128 / 2 ^ q : Nat) : Int) % 2 = ((b2u (cB f (8 * i + q))).toNat : Int) := by
  have h := bit_of ⟨q, hq⟩ ⟨(f i).toNat, (f i).toNat_lt⟩
  simp only [UInt8.ofNat_toNat] at h
  unfold cB
  rw [show (8 * i + q) / 8 = i by omega, show (8 * i + q) % 8 = q by omega]
  exact h
theorem sf_idx' (s : ByteArray) (k : Nat) (h : k < s.size) : s[k] = sf s k := by
  have h' : k < s.data.size := h
  show s.data[k] = s.data.getD k 0
  simp [Array.getElem?_eq_getElem h']
theorem half_pow : ∀ q : Fin 8, (128 / 2 ^ q.val) / 2 = 128 / 2 ^ (q.val + 1) ∧ 0 < 128 / 2 ^ q.val := by decide +kernel

set_option maxRecDepth 100000 in
set_option maxHeartbeats 1000000 in
theorem coef_ref (s : ByteArray) (hs : s.size = 16) (w : World) : Calls Tryz.prog 157 #[.string s] w fun e w' => ∃ g cap, e = .returned (.slice (some ⟨g, 0, none⟩) 128 cap) ∧ 128 ≤ cap ∧ w.heap.size ≤ g ∧ Pre w' g 128 (fun i => b2u (cB (sf s) i)) ∧ Below w.heap.size w w' := by
  have hge : 16 ≤ s.size := by omega
  have hsz : s.size ≤ 16 := by omega
  clear hs
  go_enter Tryz.func157, Tryz.ntmps157
  go_wp2
  go_loopw [3, 4] (fun v i wr => ∃ k : Nat, k ≤ 16 ∧ i = .int .i64 k ∧ Own wr w.heap.size v (8 * k) (fun i => b2u (cB (sf s) i)) ∧ Below w.heap.size w wr) (fun _ i _ => 16 - (intOf i).toNat)
  case atStart => exact ⟨0, by omega, rfl, Own.nil _ _ _, Below.refl _ _⟩
  case round =>
    obtain ⟨k, hk, rfl, ho, hB⟩ := hrel
    by_cases hlt : k < 16
    · have hix := sf_idx' s k (by omega)
      have hbb : ((sf s k).toNat : Int) < 256 := by have := (sf s k).toNat_lt; omega
      have hd : decide ((k : Int) < 16) = true := by simp; omega
      go_wp2
      go_loopw [3, 6] (fun v x wr => ∃ q K : Nat, q ≤ 8 ∧ Hid (K = 128 / 2 ^ q) ∧ x = .int .i64 K ∧ Own wr w.heap.size v (8 * k + q) (fun i => b2u (cB (sf s) i)) ∧ Below w.heap.size w wr) (fun _ x _ => (intOf x).toNat)
      case atStart => exact ⟨0, 128, by omega, rfl, rfl, ho, hB⟩
      case round =>
        clear ho hB
        obtain ⟨q, K, hq, HK, rfl, ho, hB⟩ := hrel
        by_cases hql : q < 8
        · have hh := half_pow ⟨q, hql⟩
          simp only at hh
          rw [← HK.out] at hh
          have hK0 : 0 < K := hh.2
          have HK2 : Hid (K / 2 = 128 / 2 ^ (q + 1)) := hh.1
          have hKle : K ≤ 128 := by rw [HK.out]; exact Nat.div_le_self _ _
          have hv := bit_cB (sf s) k q hql
          rw [← HK.out] at hv
          clear hh
          have hq0 : (0 : Int) ≤ ((sf s k).toNat : Int) / (K : Int) := Int.ediv_nonneg (by omega) (by omega)
          have hq1 : ((sf s k).toNat : Int) / (K : Int) ≤ 255 := by
            have h := Int.ediv_le_self (a := ((sf s k).toNat : Int)) (K : Int) (by omega)
            omega
          go_wp2_with (at_builtin; refine ap1 rfl _ _ rfl w.heap.size (8 * k + q) _ _ rfl ho (b2u (cB (sf s) (8 * k + q))) rfl (by omega) hB.size ?_; intro v' w' ho' hb')
          go_roundw
          case rel => exact ⟨q + 1, K / 2, by omega, HK2, by go_num, ho'.congr (fun j hj => by split <;> simp_all), hB.trans hb'⟩
          case measure => simp [intOf]; omega
        · have h8 : q = 8 := by omega
          subst h8
          have hK0 : K = 0 := HK.out
          subst hK0
          go_wp2
          refine ⟨⟨k + 1, by omega, by go_num, ho, hB⟩, by simp [intOf]; omega⟩
    · have h16 : k = 16 := by omega
      subst h16
      obtain ⟨g, cap, rfl, hg1, hg2, hg3, hg4⟩ := ho.got (by omega)
      have hp : Pre wr g 128 (fun i => b2u (cB (sf s) i)) := ⟨hg2, hg4⟩
      clear hg4 ho
      go_wp2
      go_ret
      exact ⟨g, cap, rfl, hg3, hg1, hp, hB⟩

set_option maxRecDepth 100000 in
set_option maxHeartbeats 1000000 in
theorem number0_ref (w : World) : Calls Tryz.prog 108 #[.int .i64 0, .int .i64 16] w fun e w' => e = .returned (.string (zs 16)) ∧ Below w.heap.size w w' := by
  go_enter Tryz.func108, Tryz.ntmps108
  go_wp2
  go_loopw [0, 5, 6] (fun v t i wr => ∃ k : Nat, k ≤ 16 ∧ v = .int .i64 0 ∧ i = .int .i64 k ∧ t = .string (zs k) ∧ Below w.heap.size w wr) (fun _ _ i _ => 16 - (intOf i).toNat)
  case atStart => exact ⟨0, by omega, rfl, rfl, rfl, Below.refl _ _⟩
  case round =>
    obtain ⟨k, hk, rfl, rfl, rfl, hB⟩ := hrel
    by_cases hlt : k < 16
    · have hz := zs_size k
      have hz1 := zs_size 1
      have hc1 : ∀ w r, cvRes (some (.cells #[.int .u8 0] 5 (0, 0))) 1 w r = .ok (.string (zs 1)) w := fun w r => cvRes_z 1 5 w r
      have hzz : zs 1 ++ zs k = zs (k + 1) := by
        apply bytes_ext
        · rw [ByteArray.size_append, zs_size, zs_size, zs_size]; omega
        · intro j hj
          rw [sf_append, sf_zs, sf_zs, sf_zs]; split <;> rfl
      go_wp2
      go_roundw
      case rel => exact ⟨k + 1, by omega, rfl, by go_num, rfl, hB.alloc hB.size _⟩
      case measure => simp [intOf]; omega
    · have h16 : k = 16 := by omega
      subst h16
      go_wp2
      go_ret
      exact ⟨rfl, hB⟩

set_option maxHeartbeats 400000 in
theorem rxor_ref (n : Nat) (f g : Nat → UInt8) (hn : n ≤ 1000000) (w : World) :
    Calls Tryz.prog 129 #[.string (str n f), .string (str n g)] w fun e w' => e = .returned (.string (str n fun j => f j ^^^ g j)) ∧ Below w.heap.size w w' := by
  have hm := mk8 n (by omega)
  have z1 := str_size n f
  have z2 := str_size n g
  go_enter Tryz.func129, Tryz.ntmps129
  go_wp2
  go_loopw [6] (fun i wr => ∃ k : Nat, k ≤ n ∧ i = .int .i64 k ∧ Row wr w.heap.size n 5 (by8 fun j => if j < k then f j ^^^ g j else 0) ∧ Below w.heap.size w wr) (fun i _ => n - (intOf i).toNat)
  case atStart =>
    refine ⟨0, by omega, rfl, ?_, ?_⟩
    · refine Row.congr (V := z8) (Row.new _ _ _ _ _ rfl) ?_
      intro j hj
      simp [z8, by8]
    · exact (Below.refl _ _).alloc (Nat.le_refl _) _
  case round =>
    obtain ⟨k, hk, rfl, r0, hB⟩ := hrel
    by_cases hlt : k < n
    · have c0 := r0.cell k hlt
      have f0 := r0.frozen k
      go_wp2
      go_region
      go_wp2
      rw [str_get, str_get, u8_xor_b]
      refine ⟨⟨k + 1, by omega, by go_num, ((r0.set k _).congr ?_).drew, (hB.setCell (by simp) _).drew⟩, by simp [intOf]; omega⟩
      intro j hj
      by_cases hjk : j = k
      · subst hjk; simp [by8]
      · simp [by8, hjk, show (j < k + 1) = (j < k) from by apply propext; omega]
    · have hkn : k = n := by omega
      subst hkn
      have r1 : Row wr w.heap.size k 5 (by8 fun j => f j ^^^ g j) := r0.congr (fun j hj => by simp [by8, hj])
      have q1 := heap_pos r1
      go_wp2
      go_ret
      exact ⟨rfl, hB⟩

theorem b2u_xor (a b : Bool) : bits .xor .i64 ((b2u a).toNat : Int) ((b2u b).toNat : Int) = ((b2u (a ^^ b)).toNat : Int) := by
  rw [i64_xor_b]
  cases a <;> cases b <;> rfl
theorem b2u_one (a : Bool) : bits .xor .i64 ((b2u a).toNat : Int) 1 = ((b2u (!a)).toNat : Int) := by
  have := b2u_xor a true
  rw [show ((b2u true).toNat : Int) = 1 from rfl] at this
  rw [this]
  cases a <;> rfl
theorem b2u_eq1 (a : Bool) : (((b2u a).toNat : Int) == 1) = a := by cases a <;> rfl
def parS (a b : Nat → Bool) (n k : Nat) (m : Nat) : Bool := rowS a b n m ^^ (a n && (decide (n ≤ m ∧ m - n < k) && b (m - n)))
def asmB (c : Nat → Bool) (j : Nat) : Nat → UInt8
  | 0 => 0
  | q + 1 => UInt8.ofNat ((asmB c j q).toNat * 2 + (b2u (c (8 * j + q))).toNat)

theorem flip4 (c : Nat → Bool) (k i : Nat) (hk : k < 128) :
    (if i = 255 - k - 121 then !c (255 - k - 121) else if i = 255 - k - 126 then !c (255 - k - 126) else if i = 255 - k - 127 then !c (255 - k - 127) else if i = 255 - k - 128 then !c (255 - k - 128) else c i) = (c i ^^ (decide (127 - k ≤ i) && lowP (i - (127 - k)))) := by
  by_cases h1 : i = 255 - k - 121
  · rw [if_pos h1, ← h1, decide_eq_true (by omega), show i - (127 - k) = 7 by omega]; cases c i <;> rfl
  · rw [if_neg h1]
    by_cases h2 : i = 255 - k - 126
    · rw [if_pos h2, ← h2, decide_eq_true (by omega), show i - (127 - k) = 2 by omega]; cases c i <;> rfl
    · rw [if_neg h2]
      by_cases h3 : i = 255 - k - 127
      · rw [if_pos h3, ← h3, decide_eq_true (by omega), show i - (127 - k) = 1 by omega]; cases c i <;> rfl
      · rw [if_neg h3]
        by_cases h4 : i = 255 - k - 128
        · rw [if_pos h4, ← h4, decide_eq_true (by omega), show i - (127 - k) = 0 by omega]; cases c i <;> rfl
        · rw [if_neg h4]
          have : (decide (127 - k ≤ i) && lowP (i - (127 - k))) = false := by
            by_cases h5 : 127 - k ≤ i
            · have : lowP (i - (127 - k)) = false := by
                unfold lowP
                simp
                omega
              rw [this, Bool.and_false]
            · rw [decide_eq_false h5]; rfl
          rw [this, Bool.xor_false]
theorem asm_byte : ∀ n : Fin 256, asmB (fun q => (UInt8.ofNat n.val).toBitVec.getLsbD (7 - q)) 0 8 = UInt8.ofNat n.val := by decide +kernel
theorem asm_congr (c d : Nat → Bool) (j j' : Nat) : ∀ q, (∀ i, i < q → c (8 * j + i) = d (8 * j' + i)) → asmB c j q = asmB d j' q
  | 0, _ => rfl
  | q + 1, h => by
    simp only [asmB]
    rw [asm_congr c d j j' q (fun i hi => h i (by omega)), h q (by omega)]
theorem asm_cB (f : Nat → UInt8) (c : Nat → Bool) (j : Nat) (h : ∀ i, i < 8 → c (8 * j + i) = cB f (8 * j + i)) : asmB c j 8 = f j := by
  have e := asm_byte ⟨(f j).toNat, (f j).toNat_lt⟩
  simp only [UInt8.ofNat_toNat] at e
  rw [← e]
  refine asm_congr _ _ _ _ 8 (fun i hi => ?_)
  rw [h i hi]
  unfold cB
  rw [show (8 * j + i) / 8 = j by omega, show (8 * j + i) % 8 = i by omega]
  simp
theorem asm_prod (f g : Nat → UInt8) (c : Nat → Bool) (hc : c = redS (rowS (cB f) (cB g) 128) 128) (j : Nat) (hj : j < 16) : asmB c j 8 = prod f g j := by
  refine asm_cB (prod f g) c j (fun i hi => ?_)
  rw [hc]
  exact red_prod f g _ (by omega)

structure S40 (w0 w : World) (gx gy m : Nat) (a b c : Nat → Bool) : Prop where
  x : Pre w gx 128 (fun i => b2u (a i))
  y : Pre w gy 128 (fun i => b2u (b i))
  r : Row w m 256 3 (in8 fun i => b2u (c i))
  lx : gx < m
  ly : gy < m
  b : Below w0.heap.size w0 w
theorem S40.set {w0 w : World} {gx gy m : Nat} {a b c d : Nat → Bool} (h : S40 w0 w gx gy m a b c) (hm : w0.heap.size ≤ m) (o : Nat) (v : Bool) (hd : ∀ i, i < 256 → d i = if i = o then v else c i) :
    S40 w0 (w.setCell ⟨m, o, none⟩ (.int .i64 ((b2u v).toNat : Int))) gx gy m a b d :=
  ⟨h.x.other (by have := h.lx; omega), h.y.other (by have := h.ly; omega), (h.r.set o _).congr (fun j hj => by
    simp only [in8]
    rw [hd j hj]
    split <;> rfl), h.lx, h.ly, h.b.setCell (by simpa using hm) _⟩
theorem S40.drew {w0 w : World} {gx gy m : Nat} {a b c : Nat → Bool} (h : S40 w0 w gx gy m a b c) : S40 w0 w.drew gx gy m a b c := ⟨h.x, h.y, h.r, h.lx, h.ly, h.b.drew⟩
theorem S40.alloc {w0 w : World} {gx gy m : Nat} {a b c : Nat → Bool} (h : S40 w0 w gx gy m a b c) (o : Obj) : S40 w0 (w.alloc o) gx gy m a b c := ⟨h.x.alloc o, h.y.alloc o, h.r.alloc o, h.lx, h.ly, h.b.alloc h.b.size o⟩
theorem S40.far {w0 w : World} {gx gy m m' o : Nat} {v : Value} {a b c : Nat → Bool} (h : S40 w0 w gx gy m a b c) (hm : m < m') (hw : w0.heap.size ≤ m) : S40 w0 (w.setCell ⟨m', o, none⟩ v) gx gy m a b c :=
  ⟨h.x.other (by have := h.lx; omega), h.y.other (by have := h.ly; omega), h.r.other (by omega), h.lx, h.ly, h.b.setCell (by simp; omega) _⟩
theorem S40.congr {w0 w : World} {gx gy m : Nat} {a b c d : Nat → Bool} (h : S40 w0 w gx gy m a b c) (hd : ∀ i, i < 256 → c i = d i) : S40 w0 w gx gy m a b d :=
  ⟨h.x, h.y, h.r.congr (fun j hj => by simp only [in8]; rw [hd j hj]), h.lx, h.ly, h.b⟩

set_option maxRecDepth 100000 in
set_option maxHeartbeats 4000000 in
theorem product_ref (s t : ByteArray) (hs : s.size = 16) (ht : t.size = 16) (w : World) : Calls Tryz.prog 146 #[.string s, .string t] w fun e w' => e = .returned (.string (str 16 (prod (sf s) (sf t)))) ∧ Below w.heap.size w w' := by
  have hm256 : ∀ w, (Instr.makeSlice 213 (.int .i64 256) (.int .i64 256)).run Tryz.prog w = .ok (.slice (some ⟨w.heap.size, 0, none⟩) 256 256) (w.alloc (.cells (arr 256 (in8 fun _ => 0)) 3)) := fun w => mk3 256 (by omega) w
  have hm16 : ∀ w, (Instr.makeSlice 105 (.int .i64 16) (.int .i64 16)).run Tryz.prog w = .ok (.slice (some ⟨w.heap.size, 0, none⟩) 16 16) (w.alloc (.cells (arr 16 z8) 5)) := fun w => mk8 16 (by omega) w
  go_enter Tryz.func146, Tryz.ntmps146
  go_wp2_with fail
  refine (coef_ref s hs _).mono ?_
  rintro e w1 ⟨gx, cx, rfl, hcx, hgx, px, b1⟩
  go_wp2_with fail
  refine (coef_ref t ht _).mono ?_
  rintro e w2 ⟨gy, cy, rfl, hcy, hgy, py, b2⟩
  have px2 := px.keep b2 px.1
  generalize ha : cB (sf s) = a at *
  generalize hb : cB (sf t) = b at *
  have HA : Hid _ := ha
  have HB : Hid _ := hb
  clear ha hb hs ht px
  have hcx' : (128 : Int) ≤ (cx : Int) := by omega
  have hcy' : (128 : Int) ≤ (cy : Int) := by omega
  have b12 := b1.trans (b2.mono b1.size)
  have hw2 := b12.size
  clear b1 b2
  go_wp2
  go_loopw [8] (fun i wr => ∃ n : Nat, n ≤ 128 ∧ i = .int .i64 n ∧ S40 w wr gx gy w2.heap.size a b (rowS a b n)) (fun i _ => 128 - (intOf i).toNat)
  case atStart =>
    refine ⟨0, by omega, rfl, ⟨px2.alloc _, py.alloc _, Row.congr (Row.new _ _ _ _ _ rfl) (fun j hj => rfl), px2.1, py.1, b12.alloc hw2 _⟩⟩
  case round =>
    clear px2 py b12
    obtain ⟨n, hn, rfl, hS⟩ := hrel
    by_cases hlt : n < 128
    · have hd : decide ((n : Int) < 128) = true := by simp; omega
      have hS0 : S40 w wr gx gy w2.heap.size a b (parS a b n 0) := hS.congr (fun i hi => by unfold parS; rw [decide_eq_false (by omega)]; simp)
      clear hS
      go_wp2
      go_loopw [9] (fun i wr => ∃ k : Nat, k ≤ 128 ∧ i = .int .i64 k ∧ (a n = false → k = 0) ∧ S40 w wr gx gy w2.heap.size a b (parS a b n k)) (fun i _ => 128 - (intOf i).toNat)
      case atStart => exact ⟨0, by omega, rfl, fun _ => rfl, hS0⟩
      case round =>
        clear hS0
        obtain ⟨k, hk, rfl, hz, hS⟩ := hrel
        have HZ : Hid _ := hz
        clear hz
        have cx0 := hS.x.2 n hlt
        simp only at cx0
        have e1 := b2u_eq1 (a n)
        by_cases hkl : k < 128
        · cases han : a n
          · rw [han] at e1 cx0
            have hk0 : k = 0 := HZ.out han
            subst hk0
            have HAN : Hid _ := han
            clear han
            have hv0 : ((b2u false).toNat : Int) = 0 := rfl
            clear e1
            go_wp2
            refine ⟨⟨n + 1, by omega, by go_num, hS.congr (fun i hi => ?_)⟩, by simp [intOf]; omega⟩
            unfold parS
            show _ = (rowS a b n i ^^ (a n && (decide (n ≤ i ∧ i - n < 128) && b (i - n))))
            rw [HAN.out]
            simp
          · rw [han] at e1 cx0
            have HAN : Hid _ := han
            clear han
            have c1 := hS.y.2 k hkl
            have c2 := hS.r.cell (n + k) (by omega)
            have f2 := hS.r.frozen (n + k)
            simp only [in8] at c2
            simp only at c1
            have hv1 : ((b2u true).toNat : Int) = 1 := rfl
            clear e1
            have EX : Hid _ := b2u_xor (parS a b n k (n + k)) (b k)
            go_wp2
            go_region
            go_wp2
            rw [EX.out]
            refine ⟨⟨k + 1, by omega, by go_num, fun h => (by cases h), (hS.set hw2 (n + k) _ (fun i hi => ?_)).drew⟩, by simp [intOf]; omega⟩
            by_cases hik : i = n + k
            · subst hik
              rw [if_pos rfl]
              unfold parS
              rw [HAN.out, decide_eq_true (by omega), decide_eq_false (by omega), show n + k - n = k by omega]
              simp
            · rw [if_neg hik]
              unfold parS
              congr 3
              rw [decide_eq_decide]
              omega
        · have hk128 : k = 128 := by omega
          subst hk128
          clear cx0 e1
          go_wp2
          exact ⟨⟨n + 1, by omega, by go_num, hS⟩, by simp [intOf]; omega⟩
    · have h128 : n = 128 := by omega
      subst h128
      generalize hu : rowS a b 128 = u at *
      have HU : Hid _ := hu
      clear hu
      go_wp2
      go_loopw [10] (fun i wr => ∃ k : Nat, k ≤ 128 ∧ i = .int .i64 (255 - (k : Int)) ∧ S40 w wr gx gy w2.heap.size a b (redS u k)) (fun i _ => (intOf i).toNat)
      case atStart => exact ⟨0, by omega, rfl, hS⟩
      case round =>
        clear hS
        obtain ⟨k, hk, rfl, hS⟩ := hrel
        by_cases hkl : k < 128
        · have c0 := hS.r.cell (255 - k) (by omega)
          simp only [in8] at c0
          have e1 := b2u_eq1 (redS u k (255 - k))
          have hd : decide ((128 : Int) ≤ 255 - (k : Int)) = true := by simp; omega
          cases hb : redS u k (255 - k)
          · rw [hb] at c0
            have hv0 : ((b2u false).toNat : Int) = 0 := rfl
            have HB : Hid _ := hb
            clear hb e1
            go_wp2
            refine ⟨⟨k + 1, by omega, by go_num, hS.congr (fun i hi => ?_)⟩, by simp [intOf]; omega⟩
            show _ = (redS u k i ^^ (redS u k (255 - k) && _))
            rw [HB.out]; simp
          · rw [hb] at c0
            have hv1 : ((b2u true).toNat : Int) = 1 := rfl
            have HB : Hid _ := hb
            clear hb e1
            generalize hc : redS u k = c at *
            have HC : Hid _ := hc
            clear hc
            have c1 := hS.r.cell (255 - k - 128) (by omega)
            have c2 := hS.r.cell (255 - k - 127) (by omega)
            have c3 := hS.r.cell (255 - k - 126) (by omega)
            have c4 := hS.r.cell (255 - k - 121) (by omega)
            have f1 := fun j => hS.r.frozen j
            simp only [in8] at c1 c2 c3 c4
            have t1 : Hid _ := b2u_one (c (255 - k - 128))
            have t2 : Hid _ := b2u_one (c (255 - k - 127))
            have t3 : Hid _ := b2u_one (c (255 - k - 126))
            have t4 : Hid _ := b2u_one (c (255 - k - 121))
            have hki : (k : Int) < 128 := by omega
            go_wp2
            rw [t1.out, t2.out, t3.out, t4.out]
            refine ⟨⟨k + 1, by omega, by go_num, ?_⟩, by simp [intOf]; omega⟩
            refine S40.congr ((((hS.set hw2 (255 - k - 128) _ (fun i hi => rfl)).set hw2 (255 - k - 127) _ (fun i hi => rfl)).set hw2 (255 - k - 126) _ (fun i hi => rfl)).set hw2 (255 - k - 121) _ (fun i hi => rfl)) ?_
            intro i hi
            show _ = (redS u k i ^^ (redS u k (255 - k) && (decide (127 - k ≤ i) && lowP (i - (127 - k)))))
            rw [HC.out, HB.out, Bool.true_and]
            exact flip4 c k i hkl
        · have hk128 : k = 128 := by omega
          subst hk128
          generalize hr : redS u 128 = c at *
          have HR : Hid _ := hr
          clear hr
          have hlm : w2.heap.size < wr.heap.size := hS.r.lt
          go_wp2
          go_loopw [12] (fun i wx => ∃ k : Nat, k ≤ 128 ∧ i = .int .i64 k ∧ S40 w wx gx gy w2.heap.size a b c ∧ Row wx wr.heap.size 16 5 (by8 fun j => asmB c j (min 8 (k - 8 * j)))) (fun i _ => 128 - (intOf i).toNat)
          case atStart =>
            refine ⟨0, by omega, rfl, hS.alloc _, Row.congr (V := z8) (Row.new _ _ _ _ _ rfl) (fun j hj => ?_)⟩
            simp only [z8, by8]
            rw [show min 8 (0 - 8 * j) = 0 by omega]; rfl
          case round =>
            clear hS
            obtain ⟨k, hk, rfl, hS, ro⟩ := hrel
            by_cases hkl : k < 128
            · have c0 := hS.r.cell k (by omega)
              simp only [in8] at c0
              have c1 := ro.cell (k / 8) (by omega)
              have f1 := ro.frozen (k / 8)
              simp only [by8] at c1
              rw [show min 8 (k - 8 * (k / 8)) = k % 8 by omega] at c1
              have hb0 : ((b2u (c k)).toNat : Int) ≤ 1 := by cases c k <;> decide
              have hb1 : ((asmB c (k / 8) (k % 8)).toNat : Int) < 256 := by have := (asmB c (k / 8) (k % 8)).toNat_lt; omega
              have HN : Hid ((((asmB c (k / 8) (k % 8)).toNat : Int) * 2 + ((b2u (c k)).toNat : Int)) % 256 = ((asmB c (k / 8) (k % 8 + 1)).toNat : Int)) := by
                show _ = _
                simp only [asmB]
                rw [show 8 * (k / 8) + k % 8 = k by omega, UInt8.toNat_ofNat']
                omega
              go_wp2
              go_region
              go_wp2
              rw [HN.out]
              refine ⟨⟨k + 1, by omega, by go_num, (hS.far hlm hw2).drew, ((ro.set (k / 8) _).congr (fun j hj => ?_)).drew⟩, by simp [intOf]; omega⟩
              simp only [by8]
              by_cases hjk : j = k / 8
              · subst hjk
                rw [if_pos rfl, show min 8 (k + 1 - 8 * (k / 8)) = k % 8 + 1 by omega]
              · rw [if_neg hjk]
                by_cases hj2 : j < k / 8
                · rw [show min 8 (k + 1 - 8 * j) = 8 by omega, show min 8 (k - 8 * j) = 8 by omega]
                · rw [show min 8 (k + 1 - 8 * j) = 0 by omega, show min 8 (k - 8 * j) = 0 by omega]
            · have hk8 : k = 128 := by omega
              subst hk8
              have r1 : Row wr _ 16 5 (by8 (prod (sf s) (sf t))) := ro.congr (fun j hj => by
                simp only [by8]
                rw [show min 8 (128 - 8 * j) = 8 by omega, asm_prod (sf s) (sf t) c (by rw [← HR.out, ← HU.out, ← HA.out, ← HB.out]) j hj])
              have q1 := heap_pos r1
              go_wp2
              go_ret
              exact ⟨rfl, hS.b⟩

theorem product_str (f g : Nat → UInt8) (w : World) : Calls Tryz.prog 146 #[.string (str 16 f), .string (str 16 g)] w fun e w' => e = .returned (.string (str 16 (prod f g))) ∧ Below w.heap.size w w' := by
  refine (product_ref _ _ (str_size _ _) (str_size _ _) w).mono ?_
  rintro e w' ⟨rfl, hb⟩
  refine ⟨?_, hb⟩
  rw [prod_congr (fun j hj => sf_str 16 f j hj) (fun j hj => sf_str 16 g j hj)]
end Go.Proofs.YtgalgjmhdbncbaaGreat
