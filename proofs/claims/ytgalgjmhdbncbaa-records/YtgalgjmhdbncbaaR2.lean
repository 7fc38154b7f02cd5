import Derived.Test.YtgalgjmhdbncbaaR1
import Derived.Test.YtgalgjmhdbncbaaM2
namespace Go.Proofs.Ytgalgjmhdbncbaa
open Go.RowKit

/-- ints in memory that are only read -/
def Pre (w : World) (g n : Nat) (f : Nat → UInt8) : Prop := g < w.heap.size ∧ ∀ j, j < n → w.cell? ⟨g, j, none⟩ = some (.int .i64 (f j).toNat)
theorem Pre.keep {w w1 : World} {g n B : Nat} {f : Nat → UInt8} (h : Pre w g n f) (hb : Below B w w1) (hg : g < B) : Pre w1 g n f :=
  ⟨Nat.lt_of_lt_of_le h.1 hb.size, fun j hj => by rw [hb.cell (p := ⟨g, j, none⟩) hg]; exact h.2 j hj⟩
theorem Pre.other {w : World} {g n m o : Nat} {v : Value} {f : Nat → UInt8} (h : Pre w g n f) (hm : g ≠ m) : Pre (w.setCell ⟨m, o, none⟩ v) g n f :=
  ⟨by simpa [World.setCell] using h.1, fun j hj => by rw [World.cell?_of_block (w := w) (heap_skip w m g o v hm)]; exact h.2 j hj⟩
theorem Pre.drew {w : World} {g n : Nat} {f : Nat → UInt8} (h : Pre w g n f) : Pre w.drew g n f := h
theorem Pre.drewN {w : World} {g n : Nat} {f : Nat → UInt8} (h : Pre w g n f) (q : Nat) : Pre (w.drewN q) g n f := h
theorem Pre.alloc {w : World} {g n : Nat} {f : Nat → UInt8} (h : Pre w g n f) (o : Obj) : Pre (w.alloc o) g n f := h.keep ((Below.refl w.heap.size w).alloc (Nat.le_refl _) o) h.1
theorem made3 (n : Nat) : madeCells #[Value.int .i64 0] n = arr n (in8 fun _ => 0) := by
  apply Array.ext_getElem?
  intro i
  by_cases h : i < n
  · rw [arr_get _ _ _ h]; simp [madeCells, h, Nat.mod_one, in8]
  · simp [madeCells, arr, h]
theorem mk3 (n : Nat) (h : n ≤ 100000) (w : World) : (Instr.makeSlice 101 (.int .i64 (n : Int)) (.int .i64 (n : Int))).run Try.prog w = .ok (.slice (some ⟨w.heap.size, 0, none⟩) n n) (w.alloc (.cells (arr n (in8 fun _ => 0)) 3)) := by
  have := run_make_row' (P := Try.prog) 101 3 (.int .i64 0) 8 Try.underlying101 info3 rfl .i64 .i64 n (by omega) (by omega) w
  rw [made3] at this
  exact this

theorem tm3 : ∀ n : Fin 256, (tmS n.val 3 8).1 = (UInt8.ofNat n.val ^^^ dbl (UInt8.ofNat n.val)).toNat := by decide +kernel
theorem tm2 : ∀ n : Fin 256, (tmS n.val 2 8).1 = (dbl (UInt8.ofNat n.val)).toNat := by decide +kernel
theorem mt3 : ∀ n : Fin 256, (tmS 3 n.val 8).1 = (UInt8.ofNat n.val ^^^ dbl (UInt8.ofNat n.val)).toNat := by decide +kernel
theorem mt2 : ∀ n : Fin 256, (tmS 2 n.val 8).1 = (dbl (UInt8.ofNat n.val)).toNat := by decide +kernel
theorem times_x3 (b : UInt8) (w : World) : Calls Try.prog 78 #[.int .i64 b.toNat, .int .i64 3] w fun e w' => e = .returned (.int .i64 (b ^^^ dbl b).toNat) ∧ w' = w := by
  have h := times_ref b.toNat 3 b.toNat_lt (by omega) w
  have e := tm3 ⟨b.toNat, b.toNat_lt⟩
  simp only [UInt8.ofNat_toNat] at e
  rw [e] at h
  exact h
theorem times_x2 (b : UInt8) (w : World) : Calls Try.prog 78 #[.int .i64 b.toNat, .int .i64 2] w fun e w' => e = .returned (.int .i64 (dbl b).toNat) ∧ w' = w := by
  have h := times_ref b.toNat 2 b.toNat_lt (by omega) w
  have e := tm2 ⟨b.toNat, b.toNat_lt⟩
  simp only [UInt8.ofNat_toNat] at e
  rw [e] at h
  exact h
theorem times_3x (b : UInt8) (w : World) : Calls Try.prog 78 #[.int .i64 3, .int .i64 b.toNat] w fun e w' => e = .returned (.int .i64 (b ^^^ dbl b).toNat) ∧ w' = w := by
  have h := times_ref 3 b.toNat (by omega) b.toNat_lt w
  have e := mt3 ⟨b.toNat, b.toNat_lt⟩
  simp only [UInt8.ofNat_toNat] at e
  rw [e] at h
  exact h
theorem times_2x (b : UInt8) (w : World) : Calls Try.prog 78 #[.int .i64 2, .int .i64 b.toNat] w fun e w' => e = .returned (.int .i64 (dbl b).toNat) ∧ w' = w := by
  have h := times_ref 2 b.toNat (by omega) b.toNat_lt w
  have e := mt2 ⟨b.toNat, b.toNat_lt⟩
  simp only [UInt8.ofNat_toNat] at e
  rw [e] at h
  exact h

theorem rot_step : ∀ k : Fin 5, ∀ n : Fin 256, (((rotl (UInt8.ofNat n.val) k.val).toNat : Nat) : Int) * 2 % 256 + (((rotl (UInt8.ofNat n.val) k.val).toNat : Nat) : Int) / 128 = ((rotl (UInt8.ofNat n.val) (k.val + 1)).toNat : Int) := by decide +kernel
theorem rot_zero : ∀ n : Fin 256, rotl (UInt8.ofNat n.val) 0 = UInt8.ofNat n.val := by decide +kernel
set_option maxRecDepth 100000 in
set_option maxHeartbeats 400000 in
theorem box_ref (b : UInt8) (w : World) : Calls Try.prog 93 #[.int .i64 b.toNat] w fun e w' => e = .returned (.int .i64 (spr b 5).toNat) ∧ w' = w := by
  have hr := fun k => rot_step k ⟨b.toNat, b.toNat_lt⟩
  have h0 := rot_zero ⟨b.toNat, b.toNat_lt⟩
  simp only [UInt8.ofNat_toNat] at hr h0
  have HR : Hid _ := hr
  have H0 : Hid _ := h0
  clear hr h0
  go_enter Try.func93, Try.ntmps93
  go_wp2
  go_loop [0, 3, 4] (fun x s i => ∃ k : Nat, k ≤ 5 ∧ i = .int .i64 k ∧ s = .int .i64 (spr b k).toNat ∧ x = .int .i64 (rotl b k).toNat) (fun _ _ i => 5 - (intOf i).toNat)
  case atStart => exact ⟨0, by omega, rfl, rfl, by rw [H0.out]⟩
  case round =>
    obtain ⟨k, hk, rfl, rfl, rfl⟩ := hrel
    by_cases hlt : k < 5
    · have e := HR.out ⟨k, hlt⟩
      have HE : Hid _ := e
      clear e
      have hx := (rotl b k).toNat_lt
      have hy : ((rotl b k).toNat : Int) < 256 := by omega
      go_wp2
      go_round
      case rel => exact ⟨k + 1, by omega, by go_num, by rw [i64_xor_b]; rfl, by rw [← HE.out]⟩
      case measure => simp [intOf]; omega
    · have h5 : k = 5 := by omega
      subst h5
      go_wp2
      go_ret
      exact ⟨rfl, rfl⟩

def ivL : Nat → List UInt8
  | 0 => List.replicate 256 0
  | k + 1 => (ivL k).set (pw k).toNat (pw ((255 - k) % 255))
theorem ivL_length : ∀ k, (ivL k).length = 256
  | 0 => by unfold ivL; rw [List.length_replicate]
  | k + 1 => by unfold ivL; rw [List.length_set, ivL_length k]
def ivF (k j : Nat) : UInt8 := (ivL k).getD j 0
theorem ivF_zero (j : Nat) (hj : j < 256) : ivF 0 j = 0 := by
  unfold ivF ivL
  rw [List.getD_eq_getElem?_getD, List.getElem?_replicate, if_pos hj]; rfl
theorem ivF_succ (k j : Nat) (hj : j < 256) : ivF (k + 1) j = if j = (pw k).toNat then pw ((255 - k) % 255) else ivF k j := by
  have hl := ivL_length k
  unfold ivF
  simp only [ivL, List.getD_eq_getElem?_getD, List.getElem?_set]
  by_cases h : j = (pw k).toNat
  · rw [if_pos h, if_pos h.symm, if_pos (by omega)]; rfl
  · rw [if_neg h, if_neg (fun e => h e.symm)]
def ivLit : List UInt8 := [0, 1, 141, 246, 203, 82, 123, 209, 232, 79, 41, 192, 176, 225, 229, 199, 116, 180, 170, 75, 153, 43, 96, 95, 88, 63, 253, 204, 255, 64, 238, 178, 58, 110, 90, 241, 85, 77, 168, 201, 193, 10, 152, 21, 48, 68, 162, 194, 44, 69, 146, 108, 243, 57, 102, 66, 242, 53, 32, 111, 119, 187, 89, 25, 29, 254, 55, 103, 45, 49, 245, 105, 167, 100, 171, 19, 84, 37, 233, 9, 237, 92, 5, 202, 76, 36, 135, 191, 24, 62, 34, 240, 81, 236, 97, 23, 22, 94, 175, 211, 73, 166, 54, 67, 244, 71, 145, 223, 51, 147, 33, 59, 121, 183, 151, 133, 16, 181, 186, 60, 182, 112, 208, 6, 161, 250, 129, 130, 131, 126, 127, 128, 150, 115, 190, 86, 155, 158, 149, 217, 247, 2, 185, 164, 222, 106, 50, 109, 216, 138, 132, 114, 42, 20, 159, 136, 249, 220, 137, 154, 251, 124, 46, 195, 143, 184, 101, 72, 38, 200, 18, 74, 206, 231, 210, 98, 12, 224, 31, 239, 17, 117, 120, 113, 165, 142, 118, 61, 189, 188, 134, 87, 11, 40, 47, 163, 218, 212, 228, 15, 169, 39, 83, 4, 27, 252, 172, 230, 122, 7, 174, 99, 197, 219, 226, 234, 148, 139, 196, 213, 157, 248, 144, 107, 177, 13, 214, 235, 198, 14, 207, 173, 8, 78, 215, 227, 93, 80, 30, 179, 91, 35, 56, 52, 104, 70, 3, 140, 221, 156, 125, 160, 205, 26, 65, 28]
set_option maxRecDepth 100000 in
theorem ivL_lit : ivL 255 = ivLit := by decide +kernel
set_option maxRecDepth 100000 in
theorem iv_box : ∀ j : Fin 256, spr (ivLit.getD j.val 0) 5 = sbG j.val := by decide +kernel
theorem iv_sbx (j : Nat) (hj : j < 256) : spr (ivF 255 j) 5 = sbx j := by
  unfold ivF
  rw [ivL_lit, sbx_eq]
  exact iv_box ⟨j, hj⟩
end Go.Proofs.Ytgalgjmhdbncbaa
