import Derived.Test.YtgalgjmhdbncbaaG2
import Derived.Test.YtgalgjmhdbncbaaN0
namespace Go.Proofs.Ytgalgjmhdbncbaa
open Go.RowKit

/-! ### numbers as bytes -/
theorem Chg.refl (g : Nat) (w : World) : Chg g w w := ⟨rfl, rfl, rfl, rfl, fun _ _ => rfl⟩
theorem Chg.setCell {g : Nat} {w w' : World} (h : Chg g w w') (o : Nat) (v : Value) : Chg g w (w'.setCell ⟨g, o, none⟩ v) :=
  ⟨h.os, h.tape, h.output, by rw [← h.size]; simp, fun k hk => by rw [heap_skip _ _ _ _ _ hk]; exact h.block k hk⟩
theorem Chg.trans {g : Nat} {a b c : World} (h : Chg g a b) (h' : Chg g b c) : Chg g a c :=
  ⟨h'.os.trans h.os, h'.tape.trans h.tape, h'.output.trans h.output, h'.size.trans h.size, fun k hk => (h'.block k hk).trans (h.block k hk)⟩

/-- a row whose bytes from off on are v in n bytes -/
def putF (f : Nat → UInt8) (off n v j : Nat) : UInt8 := if off ≤ j ∧ j < off + n then numF v n (j - off) else f j
theorem low8n (u : Nat) : ((u : Int) % (256 : Int)) = (((UInt8.ofNat u).toNat : Nat) : Int) := by
  rw [UInt8.toNat_ofNat']; omega

set_option maxHeartbeats 400000 in
theorem put_any (g off n cap m : Nat) (t : TypeId) (f : Nat → UInt8) (v : Nat) (hv : v < 18446744073709551616) (hm : off + n ≤ m) (hn : n ≤ 1000) (w : World) (hr : Row w g m t (by8 f)) :
    Calls Try.prog 87 #[.slice (some ⟨g, off, none⟩) n cap, .int .u64 v] w fun e w' => e = .returned (.tuple #[]) ∧ Chg g w w' ∧ Row w' g m t (by8 (putF f off n v)) := by
  go_enter Try.func87, Try.ntmps87
  go_wp2
  go_loopw [1, 4] (fun x i wr => ∃ q u : Nat, Hid (u = v / 256 ^ (n - q)) ∧ u < 18446744073709551616 ∧ q ≤ n ∧ x = .int .u64 u ∧ i = .int .i64 ((q : Int) - 1) ∧ Chg g w wr ∧ Row wr g m t (by8 fun j => if off + q ≤ j ∧ j < off + n then numF v n (j - off) else f j)) (fun _ i _ => (intOf i + 1).toNat)
  case atStart =>
    refine ⟨n, v, by show v = v / 256 ^ (n - n); simp, hv, Nat.le_refl _, rfl, by go_num, Chg.refl _ _, hr.congr fun j hj => ?_⟩
    simp only [by8]
    rw [if_neg (by omega)]
  case round =>
    clear hr
    obtain ⟨q, u, HU, hu, hq, rfl, rfl, hC, r0⟩ := hrel
    match q, hq, HU, r0 with
    | 0, hq, HU, r0 =>
      go_wp2
      go_end0
      refine ⟨rfl, hC, r0.congr fun j hj => ?_⟩
      simp only [by8, putF, Nat.add_zero]
    | p + 1, hq, HU, r0 =>
      rw [show (((p + 1 : Nat) : Int) - 1) = (p : Int) by omega]
      have c0 := r0.cell (off + p) (by omega)
      have f0 := r0.frozen (off + p)
      have HL : Hid _ := low8n u
      have HQ : Hid (u / 256 = v / 256 ^ (n - p)) := by
        show u / 256 = _
        rw [HU.out, Nat.div_div_eq_div_mul, show n - p = n - (p + 1) + 1 by omega, Nat.pow_succ]
      have hqu : u / 256 < 18446744073709551616 := by omega
      go_wp2
      rw [HL.out]
      go_roundw
      case rel =>
        refine ⟨p, u / 256, HQ, hqu, by omega, by go_num, by go_num, hC.setCell _ _, (r0.set (off + p) _).congr fun j hj => ?_⟩
        by_cases hj : j = off + p
        · subst hj
          simp only [by8, if_true]
          rw [if_pos (by omega)]
          unfold numF
          rw [show n - 1 - (off + p - off) = n - (p + 1) by omega, ← HU.out]
        · simp only [by8, hj, if_false]
          by_cases h2 : off + (p + 1) ≤ j ∧ j < off + n
          · rw [if_pos h2, if_pos (by omega)]
          · rw [if_neg h2, if_neg (by omega)]
      case measure => simp [intOf]

theorem valF_lt (f : Nat → UInt8) (a : Nat) : ∀ n, valF f a n < 256 ^ n
  | 0 => by simp [valF]
  | n + 1 => by
    have := valF_lt f a n
    have := (f (a + n)).toNat_lt
    simp only [valF, Nat.pow_succ]
    omega
theorem or_byte (x : Nat) (b : UInt8) (hx : x < 72057594037927936) : bits .or .u64 ((x : Int) * 256) (b.toNat : Int) = ((x * 256 + b.toNat : Nat) : Int) := by
  have hb := b.toNat_lt
  rw [show (x : Int) * 256 = ((x * 256 : Nat) : Int) by omega, u64_or_nat _ _ (by omega) (by omega)]
  congr 1
  have := Nat.two_pow_add_eq_or_of_lt (i := 8) (b := b.toNat) (by omega) x
  rw [Nat.mul_comm x 256, show (256 : Nat) = 2 ^ 8 from rfl, this]

set_option maxRecDepth 100000 in
set_option maxHeartbeats 400000 in
theorem nof_cells (g off n cap : Nat) (f : Nat → UInt8) (hn : n ≤ 7) (hc : n ≤ cap) (w : World) (hr : ∀ j, j < n → w.cell? ⟨g, off + j, none⟩ = some (.int .u8 (f (off + j)).toNat)) :
    Calls Try.prog 75 #[.slice (some ⟨g, off, none⟩) n cap] w fun e w' => e = .returned (.int .u64 (valF f off n)) ∧ w' = w := by
  go_enter Try.func75, Try.ntmps75
  go_wp2
  go_loop [3, 5, 8] (fun x _ i => ∃ q u : Nat, Hid (u = valF f off q) ∧ q ≤ n ∧ x = .int .u64 u ∧ i = .int .i64 q) (fun _ _ i => n - (intOf i).toNat)
  case atStart => exact ⟨0, 0, rfl, by omega, rfl, rfl⟩
  case round =>
    obtain ⟨q, u, HU, hq, rfl, rfl⟩ := hrel
    by_cases hlt : q < n
    · have c0 : w.cell? ⟨g, off + q, none⟩ = some (.int .u8 (f (off + q)).toNat) := hr q hlt
      have hbb : ((f (off + q)).toNat : Int) < 256 := by have := (f (off + q)).toNat_lt; omega
      have hu : u < 72057594037927936 := by
        have h1 := valF_lt f off q
        have h2 : 256 ^ q ≤ 256 ^ 6 := Nat.pow_le_pow_right (by omega) (by omega)
        rw [← HU.out] at h1
        have : (256 : Nat) ^ 6 = 281474976710656 := rfl
        omega
      have HO : Hid _ := or_byte u (f (off + q)) hu
      go_wp2
      rw [HO.out]
      go_round
      case rel =>
        refine ⟨q + 1, u * 256 + (f (off + q)).toNat, ?_, by omega, rfl, by go_num⟩
        show _ = valF f off q * 256 + (f (off + q)).toNat
        rw [← HU.out]
      case measure => simp [intOf]; omega
    · have hqn : q = n := by omega
      subst hqn
      go_wp2
      go_ret
      exact ⟨by rw [HU.out]; rfl, rfl⟩
theorem nof_any (g off n cap m : Nat) (t : TypeId) (f : Nat → UInt8) (hm : off + n ≤ m) (hn : n ≤ 7) (hc : n ≤ cap) (w : World) (hr : Row w g m t (by8 f)) :
    Calls Try.prog 75 #[.slice (some ⟨g, off, none⟩) n cap] w fun e w' => e = .returned (.int .u64 (valF f off n)) ∧ w' = w :=
  nof_cells g off n cap f hn hc w fun j hj => hr.cell (off + j) (by omega)
end Go.Proofs.Ytgalgjmhdbncbaa
