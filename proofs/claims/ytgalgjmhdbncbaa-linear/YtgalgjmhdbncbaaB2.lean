import Derived.Test.YtgalgjmhdbncbaaB1
import Derived.Test.YtgalgjmhdbncbaaM1
import Derived.Deep.DeepCutAuto
namespace Go.Proofs.Ytgalgjmhdbncbaa
open Go.RowKit
attribute [local go_sem ↓] Go.wp_at_zero Go.wp_at_succ
attribute [local go_sem ↓] cv_wrap
attribute [local go_sem] run_cv cvRes_row cvRes_z blk_new blk_at blk_old blk_drew

theorem hashN_congr {h h' s s' : Nat → UInt8} (hh : ∀ j, j < 16 → h j = h' j) : ∀ k, (∀ j, j < 16 * k → s j = s' j) → hashN h s k = hashN h' s' k
  | 0, _ => rfl
  | k + 1, hs => by
    show prod (fun j => hashN h s k j ^^^ s (16 * k + j)) h = prod (fun j => hashN h' s' k j ^^^ s' (16 * k + j)) h'
    rw [hashN_congr hh k (fun j hj => hs j (by omega))]
    exact prod_congr (fun j hj => by rw [hs _ (by omega)]) hh
theorem chash_str (k f : Nat → UInt8) (r : Nat) (hr : r ≤ 1000) (w : World) :
    Calls Try.prog 19 #[.string (str 16 k), .string (str (16 * r) f)] w fun e w' => e = .returned (.tuple #[.string (str 16 (hashN k f r)), .int .i64 0]) ∧ Below w.heap.size w w' := by
  refine (chash_ok _ _ w (str_size _ _) (by rw [str_size]; unfold maxLen; omega) (by rw [str_size]; omega)).mono ?_
  rintro e w' ⟨rfl, hb⟩
  refine ⟨?_, hb⟩
  rw [str_size, show 16 * r / 16 = r by omega, hashN_congr (fun j hj => sf_str 16 k j hj) r (fun j hj => sf_str (16 * r) f j hj)]
theorem chash_x (k f g : Nat → UInt8) (r : Nat) (hr : r ≤ 1000) (w : World) :
    Calls Try.prog 19 #[.string (str 16 k), .string (str (16 * r) fun j => f j ^^^ g j)] w fun e w' => e = .returned (.tuple #[.string (str 16 fun j => hashN k f r j ^^^ hashN k g r j), .int .i64 0]) ∧ Below w.heap.size w w' := by
  have h := chash_str k (fun j => f j ^^^ g j) r hr w
  rw [hashN_xor] at h
  exact h
theorem chash_z (k : Nat → UInt8) (r : Nat) (hr : r ≤ 1000) (w : World) :
    Calls Try.prog 19 #[.string (str 16 k), .string (zs (16 * r))] w fun e w' => e = .returned (.tuple #[.string (zs 16), .int .i64 0]) ∧ Below w.heap.size w w' := by
  have h := chash_str k (fun _ => 0) r hr w
  rw [hashN_zero] at h
  exact h
theorem chash_1 (c : Nat → UInt8) (w : World) :
    Calls Try.prog 19 #[.string (str 16 one8s), .string (str 16 c)] w fun e w' => e = .returned (.tuple #[.string (str 16 c), .int .i64 0]) ∧ Below w.heap.size w w' := by
  have h := chash_str one8s c 1 (by omega) w
  rw [show str 16 (hashN one8s c 1) = str 16 c from str_congr (hash_one c)] at h
  exact h
theorem chash_2 (w : World) :
    Calls Try.prog 19 #[.string (str 16 x8s), .string (str 16 one8s)] w fun e w' => e = .returned (.tuple #[.string (str 16 x8s), .int .i64 0]) ∧ Below w.heap.size w w' := by
  have h := chash_str x8s one8s 1 (by omega) w
  rw [show str 16 (hashN x8s one8s 1) = str 16 x8s from str_congr (fun j hj => hash_x ⟨j, hj⟩)] at h
  exact h
theorem str_one : (⟨#[128]⟩ : ByteArray) ++ zs 15 = str 16 one8s := by decide +kernel
theorem str_x : (⟨#[64]⟩ : ByteArray) ++ zs 15 = str 16 x8s := by decide +kernel

theorem just_r (s : ByteArray) (r : Nat) (hr : r ≤ 1000) (hs : s.size ≤ maxLen) (w : World) :
    Calls Try.prog 16 #[.string s, .int .i64 (16 * (r : Int))] w fun e w' => e = .returned (.string (str (16 * r) (sf s))) ∧ Below w.heap.size w w' := by
  have h := just_any s (16 * r) (by omega) hs w
  rw [show ((16 * r : Nat) : Int) = 16 * (r : Int) from by omega] at h
  exact h
theorem mk_r (r : Nat) (hr : r ≤ 1000) (w : World) : (Instr.makeSlice 31 (.int .i64 (16 * (r : Int))) (.int .i64 (16 * (r : Int)))).run Try.prog w = .ok (.slice (some ⟨w.heap.size, 0, none⟩) (16 * r) (16 * r)) (w.alloc (.cells (arr (16 * r) z8) 5)) := by
  have h := mk8 (16 * r) (by omega) w
  rw [show ((16 * r : Nat) : Int) = 16 * (r : Int) from by omega] at h
  exact h
set_option maxRecDepth 100000 in
set_option maxHeartbeats 1000000 in
theorem linear_any (h a b : ByteArray) (n : Int) (hh : h.size ≤ maxLen) (ha : a.size ≤ maxLen) (hb : b.size ≤ maxLen) (h1 : -9223372036854775808 ≤ n) (h2 : n ≤ 9223372036854775807) (w : World) :
    Calls Try.prog 5 #[.string h, .string a, .string b, .int .i64 n] w fun e w' => e = .returned (.bool true) ∧ Below w.heap.size w w' := by
  go_enter Try.func5, Try.ntmps5
  go_wp2_with fail
  refine (just_any h 16 (by omega) hh _).mono ?_
  rintro e w1 ⟨rfl, b1⟩
  go_wp2_with fail
  refine (pick_any n 6 h1 h2 (by omega) (by omega) _).mono ?_
  rintro e w2 ⟨⟨r, hr, rfl⟩, rfl⟩
  have hm := mk_r r (by omega)
  have hm15 : ∀ w, (Instr.makeSlice 31 (.int .i64 15) (.int .i64 15)).run Try.prog w = .ok (.slice (some ⟨w.heap.size, 0, none⟩) 15 15) (w.alloc (.cells (arr 15 z8) 5)) := fun w => mk8 15 (by omega) w
  have hm16 : ∀ w, (Instr.makeSlice 31 (.int .i64 16) (.int .i64 16)).run Try.prog w = .ok (.slice (some ⟨w.heap.size, 0, none⟩) 16 16) (w.alloc (.cells (arr 16 z8) 5)) := fun w => mk8 16 (by omega) w
  have s1 := str_one
  have s2 := str_x
  have s3 := zs_size 15
  go_wp2_with fail
  refine (just_r a r (by omega) ha _).mono ?_
  rintro e w3 ⟨rfl, b3⟩
  go_wp2_with fail
  refine (just_r b r (by omega) hb _).mono ?_
  rintro e w4 ⟨rfl, b4⟩
  go_wp2_with fail
  refine (chash_str _ _ r (by omega) _).mono ?_
  rintro e w5 ⟨rfl, b5⟩
  go_wp2_with fail
  refine (chash_str _ _ r (by omega) _).mono ?_
  rintro e w6 ⟨rfl, b6⟩
  go_wp2_with fail
  refine (kxor_any (16 * r) _ _ (by omega) _).mono ?_
  rintro e w7 ⟨rfl, b7⟩
  go_wp2_with fail
  refine (chash_x _ _ _ r (by omega) _).mono ?_
  rintro e w8 ⟨rfl, b8⟩
  go_wp2_with fail
  refine (chash_z _ r (by omega) _).mono ?_
  rintro e w9 ⟨rfl, b9⟩
  go_wp2_with fail
  refine (just_any h 16 (by omega) hh _).mono ?_
  rintro e w10 ⟨rfl, b10⟩
  go_wp2_with fail
  refine (chash_1 _ _).mono ?_
  rintro e w11 ⟨rfl, b11⟩
  go_upto_region 11 with fail
  have bb : Below w.heap.size w w11 := by
    have z1 := b1.size
    have z3 := b3.size
    have z4 := b4.size
    have z5 := b5.size
    have z6 := b6.size
    have z7 := b7.size
    have z8' := b8.size
    have z9 := b9.size
    have z10 := b10.size
    have z11 := b11.size
    simp at z9 z11
    exact (((((((((b1.trans (b3.mono (by omega))).trans (b4.mono (by omega))).trans (b5.mono (by omega))).trans (b6.mono (by omega))).trans (b7.mono (by omega))).trans (b8.mono (by omega))).alloc (by omega) _).trans (b9.mono (by simp; omega))).trans (b10.mono (by omega))).alloc (by omega) _ |>.trans (b11.mono (by simp; omega))
  clear b1 b3 b4 b5 b6 b7 b8 b9 b10 b11
  go_cut [22, 23] (fun x y wx => x = .string (str 16 x8s) ∧ y = .int .i64 0 ∧ Below w.heap.size w wx)
  case first =>
    go_region_with (first | (go_at_call 19; refine (chash_2 _).mono ?_; rintro e w12 ⟨rfl, b12⟩))
    all_goals
      go_wp2_with fail
      go_meet
      exact ⟨rfl, rfl, ((bb.alloc bb.size _).alloc (by have := bb.size; simp; omega) _).drew.trans (b12.mono (by have := bb.size; simp; omega))⟩
  case rest =>
    obtain ⟨rfl, rfl, bc⟩ := hcut
    have sx := str_size 16 (hashN (sf h) (sf a) r)
    have sz := str_size 16 (fun j => hashN (sf h) (sf a) r j ^^^ hashN (sf h) (sf b) r j)
    go_wp2_with fail
    refine (kxor_any 16 _ _ (by omega) _).mono ?_
    rintro e w13 ⟨rfl, b13⟩
    go_wp2_with fail
    go_ret
    exact ⟨rfl, ((bc.trans (b13.mono bc.size)).alloc (by have := bc.size; have := b13.size; omega) _).alloc (by have := bc.size; have := b13.size; simp; omega) _⟩
end Go.Proofs.Ytgalgjmhdbncbaa
