import Derived.Test.YtgalgjmhdbncbaaG2
namespace Go.Proofs.Ytgalgjmhdbncbaa
open Go.RowKit
attribute [local go_sem ↓] Go.wp_at_zero Go.wp_at_succ
attribute [local go_sem ↓] ldw40 ldw50 ldw60 ldw63 ldw52 stw40 stw50 stw63 stw52 al40 al50 al60 al62 al63 al52 bd50 bd55
attribute [local go_sem] run_ldT40 run_ldT50 run_ldT60 run_ldT63 run_ldT52 ldN_row run_stT40 run_stT50 run_stT63 run_stT52 stN_row stN_z run_al40 run_al50 run_al60 run_al62 run_al63 run_al52 run_bd50 run_bd55
attribute [local go_sem] blk_new blk_at blk_old blk_drew blk_setCell blk_setRow alloc_setRow

/-- the powers of x + 1 -/
def pw : Nat → UInt8
  | 0 => 1
  | k + 1 => pw k ^^^ dbl (pw k)
def boxL : Nat → List UInt8
  | 0 => spr 0 5 :: List.replicate 255 0
  | k + 1 => (boxL k).set (pw k).toNat (spr (pw ((255 - k) % 255)) 5)
theorem boxL_length : ∀ k, (boxL k).length = 256
  | 0 => by unfold boxL; rw [List.length_cons, List.length_replicate]
  | k + 1 => by unfold boxL; rw [List.length_set, boxL_length k]
def bxF (k j : Nat) : UInt8 := (boxL k).getD j 0
theorem bxF_zero (j : Nat) (hj : j < 256) : bxF 0 j = if j = 0 then spr 0 5 else 0 := by
  unfold bxF boxL
  cases j with
  | zero => rfl
  | succ j =>
    rw [if_neg (by omega), List.getD_cons_succ, List.getD_eq_getElem?_getD, List.getElem?_replicate, if_pos (by omega)]
    rfl
theorem bxF_succ (k j : Nat) (hj : j < 256) : bxF (k + 1) j = if j = (pw k).toNat then spr (pw ((255 - k) % 255)) 5 else bxF k j := by
  have hl := boxL_length k
  unfold bxF
  simp only [boxL, List.getD_eq_getElem?_getD, List.getElem?_set]
  by_cases h : j = (pw k).toNat
  · rw [if_pos h, if_pos h.symm, if_pos (by omega)]; rfl
  · rw [if_neg h, if_neg (fun e => h e.symm)]
/-- the S-box -/
def sbx (j : Nat) : UInt8 := bxF 255 j

theorem idx60 (f : Nat → UInt8) (k : Nat) (h : k < 255) (w : World) : (Instr.index 104 (.agg (arr 255 (by8 f))) (.int .i64 k)).run Try.prog w = .ok (.int .u8 (f k).toNat) w := by
  have h1 : (sizeOf 5).run Try.prog w = .ok 1 w := by kernel_rfl
  have h2 : (isAgg 5).run Try.prog w = .ok false w := by kernel_rfl
  have hc := arr_get 255 (by8 f) k h
  have hp : (part 5 (arr 255 (by8 f)) k).run Try.prog w = .ok (.int .u8 (f k).toNat) w := by
    unfold part
    rw [Sem.run_bind, h2]
    simp [hc, by8]
  simp [Instr.index, run_underlying Try.underlying104, asIntOf, h1, h, hp]

structure S29 (w0 w : World) (n m : Nat) (k : Nat) : Prop where
  r0 : Row w n 256 78 z8
  r1 : Row w (n + 1) 255 104 (by8 pw)
  r2 : Row w m 256 78 (by8 (bxF k))
  b : Below n w0 w

set_option maxRecDepth 100000 in
set_option maxHeartbeats 800000 in
theorem newSub_any (w : World) : Calls Try.prog 57 #[] w fun e w' => e = .returned (.agg (arr 256 (by8 sbx))) ∧ Below w.heap.size w w' := by
  go_enter Try.func57, Try.ntmps57
  go_wp2
  go_loopw [2, 8] (fun p i wr => ∃ k : Nat, k ≤ 255 ∧ i = .int .i64 k ∧ p = .int .u8 (pw k).toNat ∧ Row wr w.heap.size 256 78 z8 ∧ Row wr (w.heap.size + 1) 255 104 (by8 fun j => if j < k then pw j else 0) ∧ Below w.heap.size w wr) (fun _ i _ => 255 - (intOf i).toNat)
  case atStart =>
    refine ⟨0, by omega, rfl, rfl, ?_, ?_, ?_⟩
    · exact (Row.new _ _ _ _ _ rfl).alloc _
    · refine Row.congr (V := z8) (Row.new _ _ _ _ _ (by simp)) ?_
      intro j hj
      simp [z8, by8]
    · exact (((Below.refl _ _).alloc (Nat.le_refl _) _).alloc (by simp) _)
  case round =>
    obtain ⟨k, hk, rfl, rfl, r0, r1, hB⟩ := hrel
    by_cases hlt : k < 255
    · have c0 := r1.cell k hlt
      have f0 := r1.frozen k
      go_wp2_with (go_at_call 80; refine (dbl_any _ _).mono ?_; rintro e w1 ⟨rfl, rfl⟩)
      go_roundw
      case rel =>
        rw [u8_xor_b]
        refine ⟨k + 1, by omega, by go_num, rfl, r0.other (by omega), (r1.set k _).congr ?_, hB.setCell (by simp) _⟩
        intro j hj
        by_cases hjk : j = k
        · subst hjk; simp [by8]
        · simp [by8, hjk, show (j < k + 1) = (j < k) from by apply propext; omega]
      case measure => simp [intOf]; omega
    · have h5 : k = 255 := by omega
      subst h5
      have r1 : Row wr (w.heap.size + 1) 255 104 (by8 pw) := r1.congr (fun j hj => by simp [by8, hj])
      have q1 := heap_pos r1
      have hz := r1.lt
      go_wp2_with (go_at_call 81; refine (spread_0 _).mono ?_; rintro e wr ⟨rfl, rfl⟩)
      go_loopw [22] (fun i wx => ∃ k : Nat, k ≤ 255 ∧ i = .int .i64 k ∧ S29 w wx w.heap.size wr.heap.size k) (fun i _ => 255 - (intOf i).toNat)
      case atStart =>
        refine ⟨0, by omega, rfl, ⟨r0.alloc _, r1.alloc _, ?_, hB.alloc hB.size _⟩⟩
        exact Row.congr (Row.new _ _ _ _ _ rfl) (fun j hj => by simp only [by8, bxF_zero j hj])
      case round =>
        obtain ⟨k, hk, rfl, hS⟩ := hrel
        by_cases hlt : k < 255
        · have hix := idx60 pw k hlt
          have c1 : wr.cell? ⟨w.heap.size + 1, (-(k : Int) % 255).toNat, none⟩ = some (.int .u8 (pw ((255 - k) % 255)).toNat) := by
            rw [show (-(k : Int) % 255).toNat = (255 - k) % 255 by omega]
            exact hS.r1.cell _ (by omega)
          have c2 := hS.r2.cell (pw k).toNat (pw k).toNat_lt
          have f2 := hS.r2.frozen (pw k).toNat
          have hb : ((pw k).toNat : Int) < 256 := by have := (pw k).toNat_lt; omega
          have HS := bxF_succ k
          have HS' : Hid _ := HS
          clear HS
          go_wp2_with (go_at_call 81; refine (spread_any _ _).mono ?_; rintro e wr ⟨rfl, rfl⟩)
          go_roundw
          case rel =>
            refine ⟨k + 1, by omega, by go_num, ⟨hS.r0.other (by omega), hS.r1.other (by omega), (hS.r2.set (pw k).toNat _).congr ?_, hS.b.setCell (by simp; omega) _⟩⟩
            intro j hj
            simp only [by8]
            rw [HS'.out j hj]
            split <;> rfl
          case measure => simp [intOf]; omega
        · have h5 : k = 255 := by omega
          subst h5
          have q0 := heap_pos hS.r0
          have q2 := heap_pos hS.r2
          go_wp2
          refine bodyPost_ret (res50 Try.results57 _ _ w.heap.size _ rfl _ hS.r0.setRow) rfl ⟨rfl, ?_⟩
          exact Below.setRow hS.b (by omega) _
end Go.Proofs.Ytgalgjmhdbncbaa
