import Derived.Test.YtgalgjmhdbncbaaGreatZu06
import Derived.Test.YtgalgjmhdbncbaaGreatZu02
import Derived.Deep.QuietTactic
import Derived.BigQuiet
namespace Go.Proofs.YtgalgjmhdbncbaaGreat

def bvF (c : Nat → Bool) : Nat → BitVec 128
  | 0 => 0#128
  | k + 1 => bvF c k ^^^ (if c k = true then BitVec.twoPow 128 k else 0#128)
theorem bvF_bit (c : Nat → Bool) : ∀ k, k ≤ 128 → ∀ i, (bvF c k).getLsbD i = (decide (i < k) && c i)
  | 0, _, i => by simp [bvF]
  | k + 1, hk, i => by
    simp only [bvF]
    rw [BitVec.getLsbD_xor, bvF_bit c k (by omega) i]
    by_cases h : i = k
    · subst h
      cases c i
      · simp
      · simp [show i < 128 by omega]
    · have e : (if c k = true then BitVec.twoPow 128 k else 0#128).getLsbD i = false := by
        cases c k
        · simp
        · rw [if_pos rfl, BitVec.getLsbD_twoPow, decide_eq_false (fun e : k = i => h e.symm), Bool.and_false]
      rw [e, Bool.xor_false]
      congr 1
      rw [decide_eq_decide]
      omega
def bvB (f : Nat → UInt8) : BitVec 128 := bvF (cB f) 128
theorem bvB_bit (f : Nat → UInt8) (i : Nat) (hi : i < 128) : (bvB f).getLsbD i = cB f i := by
  unfold bvB
  rw [bvF_bit _ _ (Nat.le_refl _), decide_eq_true hi, Bool.true_and]
theorem low_bit : ∀ i : Fin 128, (135#128).getLsbD i.val = lowP i.val := by decide +kernel
theorem gx_bit (v : BitVec 128) (i : Nat) (hi : i < 128) : (gx v).getLsbD i = txS (fun j => v.getLsbD j) i := by
  unfold gx txS
  rw [BitVec.getLsbD_xor, BitVec.getLsbD_shiftLeft]
  have e : (if v.getLsbD 127 = true then 135#128 else 0#128).getLsbD i = (v.getLsbD 127 && lowP i) := by
    cases v.getLsbD 127
    · simp
    · rw [if_pos rfl, Bool.true_and]; exact low_bit ⟨i, hi⟩
  rw [e]
  congr 1
  by_cases h : i = 0
  · subst h; simp
  · rw [if_neg h, decide_eq_true hi, decide_eq_false (by omega : ¬ i < 1)]
    simp
theorem gxN_bit (v : BitVec 128) : ∀ k i, i < 128 → (gxN v k).getLsbD i = itS (fun j => v.getLsbD j) k i
  | 0, _, _ => rfl
  | k + 1, i, hi => by
    simp only [gxN]
    rw [gx_bit _ i hi]
    exact txS_congr (gxN_bit v k) i hi
theorem gmN_bit (a b : BitVec 128) (i : Nat) (hi : i < 128) : ∀ k, (gmN a b k).getLsbD i = sumS (fun j => a.getLsbD j) (fun j => b.getLsbD j) k i
  | 0 => by simp [gmN, sumS]
  | k + 1 => by
    simp only [gmN, sumS]
    rw [BitVec.getLsbD_xor, gmN_bit a b i hi k]
    congr 1
    cases a.getLsbD k
    · simp
    · rw [if_pos rfl, Bool.true_and]; exact gxN_bit b k i hi
theorem bv_prod (f g : Nat → UInt8) : bvB (prod f g) = gm (bvB f) (bvB g) := by
  apply BitVec.eq_of_getLsbD_eq
  intro i hi
  rw [bvB_bit _ i hi, prod_cB f g i hi]
  unfold gm
  rw [gmN_bit _ _ i hi]
  exact (sumS_congr 128 (fun t ht => bvB_bit f t (by omega)) (fun j hj => bvB_bit g j hj) i hi).symm
theorem bv_zero (f : Nat → UInt8) : bvB f = 0#128 ↔ ∀ j, j < 16 → f j = 0 := by
  constructor
  · intro h j hj
    apply UInt8.eq_of_toBitVec_eq
    apply BitVec.eq_of_getLsbD_eq
    intro i hi
    have e := congrArg (fun v => v.getLsbD (8 * j + (7 - i))) h
    rw [bvB_bit f _ (by omega)] at e
    unfold cB at e
    rw [show (8 * j + (7 - i)) / 8 = j by omega, show 7 - (8 * j + (7 - i)) % 8 = i by omega] at e
    rw [e, BitVec.getLsbD_zero]
    exact BitVec.getLsbD_zero.symm
  · intro h
    apply BitVec.eq_of_getLsbD_eq
    intro i hi
    rw [bvB_bit f i hi, BitVec.getLsbD_zero]
    unfold cB
    rw [h (i / 8) (by omega)]
    exact BitVec.getLsbD_zero
theorem prod_ne (f h : Nat → UInt8) (hz : ∀ j, j < 16 → prod f h j = 0) (hh : ¬ ∀ j, j < 16 → h j = 0) : ∀ j, j < 16 → f j = 0 := by
  have e := (bv_zero (prod f h)).2 hz
  rw [bv_prod] at e
  exact (bv_zero f).1 (gm_ne _ _ e (fun e2 => hh ((bv_zero h).1 e2)))
theorem prod_zero' (f h : Nat → UInt8) (hz : ∀ j, j < 16 → f j = 0) : ∀ j, j < 16 → prod f h j = 0 := by
  rw [← bv_zero, bv_prod, (bv_zero f).2 hz, gm_comm, gm_zero]
theorem hash_ne (h d : Nat → UInt8) (i : Nat) (hh : ¬ ∀ j, j < 16 → h j = 0) (hd : ¬ ∀ j, j < 16 → d (16 * i + j) = 0) : ∀ k, (∀ t j, t < k → t ≠ i → j < 16 → d (16 * t + j) = 0) →
    (k ≤ i → ∀ j, j < 16 → hashN h d k j = 0) ∧ (i < k → ¬ ∀ j, j < 16 → hashN h d k j = 0)
  | 0, _ => ⟨fun _ _ _ => rfl, fun h => absurd h (by omega)⟩
  | k + 1, h0 => by
    obtain ⟨h1, h2⟩ := hash_ne h d i hh hd k (fun t j ht => h0 t j (by omega))
    constructor
    · intro hk
      refine prod_zero' _ h ?_
      intro j hj
      rw [h1 (by omega) j hj, h0 k j (by omega) (by omega) hj]
      rfl
    · intro hk hz
      have e := prod_ne _ h hz hh
      by_cases hki : k = i
      · subst hki
        apply hd
        intro j hj
        have := e j hj
        rw [h1 (Nat.le_refl _) j hj, UInt8.zero_xor] at this
        exact this
      · apply h2 (by omega)
        intro j hj
        have := e j hj
        rw [h0 k j (by omega) hki hj, UInt8.xor_zero] at this
        exact this
theorem hash_parts (h f g : Nat → UInt8) (i k : Nat) (hi : i < k) (hh : ¬ ∀ j, j < 16 → h j = 0) (hd : ¬ ∀ j, j < 16 → f (16 * i + j) = g (16 * i + j)) (h0 : ∀ t j, t < k → t ≠ i → j < 16 → f (16 * t + j) = g (16 * t + j)) :
    ¬ ∀ j, j < 16 → hashN h f k j = hashN h g k j := by
  have hd' : ¬ ∀ j, j < 16 → (fun j => f j ^^^ g j) (16 * i + j) = 0 := by
    intro e
    apply hd
    intro j hj
    exact UInt8.xor_eq_zero_iff.1 (e j hj)
  have := (hash_ne h (fun j => f j ^^^ g j) i hh hd' k (fun t j ht hti hj => by
    show f _ ^^^ g _ = 0
    rw [h0 t j ht hti hj, UInt8.xor_self])).2 hi
  intro e
  apply this
  intro j hj
  rw [hashN_xor]
  show hashN h f k j ^^^ hashN h g k j = 0
  rw [e j hj, UInt8.xor_self]
end Go.Proofs.YtgalgjmhdbncbaaGreat
namespace Go.Proofs.YtgalgjmhdbncbaaGreat
open Go.RowKit
attribute [local go_sem ↓] Go.wp_at_zero Go.wp_at_succ
attribute [local go_sem ↓] ldw40 ldw50 ldw60 ldw63 ldw52 stw40 stw50 stw63 stw52 al40 al50 al60 al62 al63 al52 bd50 bd55
attribute [local go_sem] run_ldT40 run_ldT50 run_ldT60 run_ldT63 run_ldT52 ldN_row run_stT40 run_stT50 run_stT63 run_stT52 stN_row stN_z run_al40 run_al50 run_al60 run_al62 run_al63 run_al52 run_bd50 run_bd55
attribute [local go_sem] blk_new blk_at blk_old blk_drew blk_setCell blk_setRow alloc_setRow

def pw : Nat → UInt8
  | 0 => 1
  | k + 1 => pw k ^^^ dbl (pw k)
def boxL : Nat → List UInt8
  | 0 => spr 0 5 :: List.replicate 255 0
  | k + 1 => (boxL k).set (pw k).toNat (spr (pw ((255 - k) % 255)) 5)
theorem boxL_length : ∀ k, (boxL k).length = 256
  | 0 => by unfold boxL; rw [List.length_cons, List.length_replicate]
  | k + 1 => by unfold boxL; rw [List.length_set, boxL_length k]
def bxF (k j : Nat) : UInt8 := (boxL k).getD j 0
theorem bxF_zero (j : Nat) (hj : j < 256) : bxF 0 j = if j = 0 then spr 0 5 else 0 := by
  unfold bxF boxL
  cases j with
  | zero => rfl
  | succ j =>
    rw [if_neg (by omega), List.getD_cons_succ, List.getD_eq_getElem?_getD, List.getElem?_replicate, if_pos (by omega)]
    rfl
theorem bxF_succ (k j : Nat) (hj : j < 256) : bxF (k + 1) j = if j = (pw k).toNat then spr (pw ((255 - k) % 255)) 5 else bxF k j := by
  have hl := boxL_length k
  unfold bxF
  simp only [boxL, List.getD_eq_getElem?_getD, List.getElem?_set]
  by_cases h : j = (pw k).toNat
  · rw [if_pos h, if_pos h.symm, if_pos (by omega)]; rfl
  · rw [if_neg h, if_neg (fun e => h e.symm)]
def sbx (j : Nat) : UInt8 := bxF 255 j

theorem idx60 (f : Nat → UInt8) (k : Nat) (h : k < 255) (w : World) : (Instr.index 217 (.agg (arr 255 (by8 f))) (.int .i64 k)).run Tryz.prog w = .ok (.int .u8 (f k).toNat) w := by
  have h1 : (sizeOf 5).run Tryz.prog w = .ok 1 w := by kernel_rfl
  have h2 : (isAgg 5).run Tryz.prog w = .ok false w := by kernel_rfl
  have hc := arr_get 255 (by8 f) k h
  have hp : (part 5 (arr 255 (by8 f)) k).run Tryz.prog w = .ok (.int .u8 (f k).toNat) w := by
    unfold part
    rw [Sem.run_bind, h2]
    simp [hc, by8]
  simp [Instr.index, run_underlying Tryz.underlying217, asIntOf, h1, h, hp]

structure S29 (w0 w : World) (n m : Nat) (k : Nat) : Prop where
  r0 : Row w n 256 206 z8
  r1 : Row w (n + 1) 255 217 (by8 pw)
  r2 : Row w m 256 206 (by8 (bxF k))
  b : Below n w0 w

set_option maxRecDepth 100000 in
set_option maxHeartbeats 800000 in
theorem newSub_any (w : World) : Calls Tryz.prog 133 #[] w fun e w' => e = .returned (.agg (arr 256 (by8 sbx))) ∧ Below w.heap.size w w' := by
  go_enter Tryz.func133, Tryz.ntmps133
  go_wp2
  go_loopw [2, 8] (fun p i wr => ∃ k : Nat, k ≤ 255 ∧ i = .int .i64 k ∧ p = .int .u8 (pw k).toNat ∧ Row wr w.heap.size 256 206 z8 ∧ Row wr (w.heap.size + 1) 255 217 (by8 fun j => if j < k then pw j else 0) ∧ Below w.heap.size w wr) (fun _ i _ => 255 - (intOf i).toNat)
  case atStart =>
    refine ⟨0, by omega, rfl, rfl, ?_, ?_, ?_⟩
    · exact (Row.new _ _ _ _ _ rfl).alloc _
    · refine Row.congr (V := z8) (Row.new _ _ _ _ _ (by simp)) ?_
      intro j hj
      simp [z8, by8]
    · exact (((Below.refl _ _).alloc (Nat.le_refl _) _).alloc (by simp) _)
  case round =>
    obtain ⟨k, hk, rfl, rfl, r0, r1, hB⟩ := hrel
    by_cases hlt : k < 255
    · have c0 := r1.cell k hlt
      have f0 := r1.frozen k
      go_wp2_with (go_at_call 148; refine (dbl_any _ _).mono ?_; rintro e w1 ⟨rfl, rfl⟩)
      go_roundw
      case rel =>
        rw [u8_xor_b]
        refine ⟨k + 1, by omega, by go_num, rfl, r0.other (by omega), (r1.set k _).congr ?_, hB.setCell (by simp) _⟩
        intro j hj
        by_cases hjk : j = k
        · subst hjk; simp [by8]
        · simp [by8, hjk, show (j < k + 1) = (j < k) from by apply propext; omega]
      case measure => simp [intOf]; omega
    · have h5 : k = 255 := by omega
      subst h5
      have r1 : Row wr (w.heap.size + 1) 255 217 (by8 pw) := r1.congr (fun j hj => by simp [by8, hj])
      have q1 := heap_pos r1
      have hz := r1.lt
      go_wp2_with (go_at_call 149; refine (spread_0 _).mono ?_; rintro e wr ⟨rfl, rfl⟩)
      go_loopw [22] (fun i wx => ∃ k : Nat, k ≤ 255 ∧ i = .int .i64 k ∧ S29 w wx w.heap.size wr.heap.size k) (fun i _ => 255 - (intOf i).toNat)
      case atStart =>
        refine ⟨0, by omega, rfl, ⟨r0.alloc _, r1.alloc _, ?_, hB.alloc hB.size _⟩⟩
        exact Row.congr (Row.new _ _ _ _ _ rfl) (fun j hj => by simp only [by8, bxF_zero j hj])
      case round =>
        obtain ⟨k, hk, rfl, hS⟩ := hrel
        by_cases hlt : k < 255
        · have hix := idx60 pw k hlt
          have c1 : wr.cell? ⟨w.heap.size + 1, (-(k : Int) % 255).toNat, none⟩ = some (.int .u8 (pw ((255 - k) % 255)).toNat) := by
            rw [show (-(k : Int) % 255).toNat = (255 - k) % 255 by omega]
            exact hS.r1.cell _ (by omega)
          have c2 := hS.r2.cell (pw k).toNat (pw k).toNat_lt
          have f2 := hS.r2.frozen (pw k).toNat
          have hb : ((pw k).toNat : Int) < 256 := by have := (pw k).toNat_lt; omega
          have HS := bxF_succ k
          have HS' : Hid _ := HS
          clear HS
          go_wp2_with (go_at_call 149; refine (spread_any _ _).mono ?_; rintro e wr ⟨rfl, rfl⟩)
          go_roundw
          case rel =>
            refine ⟨k + 1, by omega, by go_num, ⟨hS.r0.other (by omega), hS.r1.other (by omega), (hS.r2.set (pw k).toNat _).congr ?_, hS.b.setCell (by simp; omega) _⟩⟩
            intro j hj
            simp only [by8]
            rw [HS'.out j hj]
            split <;> rfl
          case measure => simp [intOf]; omega
        · have h5 : k = 255 := by omega
          subst h5
          have q0 := heap_pos hS.r0
          have q2 := heap_pos hS.r2
          go_wp2
          refine bodyPost_ret (res50 Tryz.results133 _ _ w.heap.size _ rfl _ hS.r0.setRow) rfl ⟨rfl, ?_⟩
          exact Below.setRow hS.b (by omega) _
end Go.Proofs.YtgalgjmhdbncbaaGreat
namespace Go.Proofs.YtgalgjmhdbncbaaGreat
open Go.RowKit
attribute [local go_sem ↓] Go.wp_at_zero Go.wp_at_succ
attribute [local go_sem ↓] ldw40 ldw50 ldw60 ldw63 ldw52 stw40 stw50 stw63 stw52 al40 al50 al60 al62 al63 al52 bd50 bd55
attribute [local go_sem] run_ldT40 run_ldT50 run_ldT60 run_ldT63 run_ldT52 ldN_row run_stT40 run_stT50 run_stT63 run_stT52 stN_row stN_z run_al40 run_al50 run_al60 run_al62 run_al63 run_al52 run_bd50 run_bd55
attribute [local go_sem] blk_new blk_at blk_old blk_drew blk_setCell blk_setRow alloc_setRow

def Tab (w : World) (g o : Nat) (bx : Nat → UInt8) : Prop := g < w.heap.size ∧ ∀ i, i < 256 → w.cell? ⟨g, o + i, none⟩ = some (.int .u8 (bx i).toNat)
theorem Tab.keep {w w1 : World} {g o B : Nat} {bx : Nat → UInt8} (h : Tab w g o bx) (hb : Below B w w1) (hg : g < B) : Tab w1 g o bx :=
  ⟨Nat.lt_of_lt_of_le h.1 hb.size, fun i hi => by rw [hb.cell (p := ⟨g, o + i, none⟩) hg]; exact h.2 i hi⟩

set_option maxRecDepth 100000 in
set_option maxHeartbeats 400000 in
theorem subBlock_any (g o : Nat) (bx f : Nat → UInt8) (w : World) (ht : Tab w g o bx) :
    Calls Tryz.prog 138 #[.pointer (some ⟨g, o, none⟩), .agg (arr 16 (by8 f))] w fun e w' =>
      e = .returned (.agg (arr 16 (by8 fun j => bx (f j).toNat))) ∧ Below w.heap.size w w' := by
  go_enter Tryz.func138, Tryz.ntmps138
  go_wp2
  go_loopw [6] (fun i wr => ∃ k : Nat, k ≤ 16 ∧ i = .int .i64 k ∧ Row wr w.heap.size 16 145 (by8 fun j => if j < k then bx (f j).toNat else f j) ∧ Row wr (w.heap.size + 1) 16 145 z8 ∧ Below w.heap.size w wr) (fun i _ => 16 - (intOf i).toNat)
  case atStart =>
    refine ⟨0, by omega, rfl, ?_, Row.new _ _ _ _ _ (by simp), ?_⟩
    · exact (Row.new _ _ _ _ _ rfl).alloc _
    · exact ((Below.refl _ _).alloc (Nat.le_refl _) _).alloc (by simp) _
  case round =>
    obtain ⟨k, hk, rfl, r0, r1, hB⟩ := hrel
    by_cases hlt : k < 16
    · have c0 := r0.cell k hlt
      have f0 := r0.frozen k
      have c1 := (ht.keep hB ht.1).2 (f k).toNat (f k).toNat_lt
      have hb : ((f k).toNat : Int) < 256 := by have := (f k).toNat_lt; omega
      simp only [by8, Nat.lt_irrefl, if_false] at c0
      go_wp2
      go_region
      go_wp2
      go_roundw
      case rel =>
        refine ⟨k + 1, by omega, by go_num, ((r0.set k _).congr ?_).drew, (r1.other (by omega)).drew, (hB.setCell (by simp) _).drew⟩
        intro j hj
        by_cases hjk : j = k
        · subst hjk; simp [by8]
        · simp [by8, hjk, show (j < k + 1) = (j < k) from by apply propext; omega]
      case measure => simp [intOf]; omega
    · have hk16 : k = 16 := by omega
      subst hk16
      have r0 : Row wr w.heap.size 16 145 (by8 fun j => bx (f j).toNat) := r0.congr (fun j hj => by simp [by8, hj])
      have q0 := heap_pos r0
      have q1 := heap_pos r1
      go_wp2
      refine bodyPost_ret (res40 Tryz.results138 _ _ (w.heap.size + 1) _ rfl r1.setRow) rfl ⟨rfl, ?_⟩
      exact Below.setRow hB (by omega) _

set_option maxRecDepth 100000 in
set_option maxHeartbeats 400000 in
theorem subWord_any (g o : Nat) (bx f : Nat → UInt8) (w : World) (ht : Tab w g o bx) :
    Calls Tryz.prog 150 #[.pointer (some ⟨g, o, none⟩), .agg (arr 4 (by8 f))] w fun e w' =>
      e = .returned (.agg (arr 4 (by8 fun j => bx (f j).toNat))) ∧ Below w.heap.size w w' := by
  go_enter Tryz.func150, Tryz.ntmps150
  go_wp2
  go_loopw [6] (fun i wr => ∃ k : Nat, k ≤ 4 ∧ i = .int .i64 k ∧ Row wr w.heap.size 4 220 (by8 fun j => if j < k then bx (f j).toNat else f j) ∧ Row wr (w.heap.size + 1) 4 220 z8 ∧ Below w.heap.size w wr) (fun i _ => 4 - (intOf i).toNat)
  case atStart =>
    refine ⟨0, by omega, rfl, ?_, Row.new _ _ _ _ _ (by simp), ?_⟩
    · exact (Row.new _ _ _ _ _ rfl).alloc _
    · exact ((Below.refl _ _).alloc (Nat.le_refl _) _).alloc (by simp) _
  case round =>
    obtain ⟨k, hk, rfl, r0, r1, hB⟩ := hrel
    by_cases hlt : k < 4
    · have c0 := r0.cell k hlt
      have f0 := r0.frozen k
      have c1 := (ht.keep hB ht.1).2 (f k).toNat (f k).toNat_lt
      have hb : ((f k).toNat : Int) < 256 := by have := (f k).toNat_lt; omega
      simp only [by8, Nat.lt_irrefl, if_false] at c0
      go_wp2
      go_region
      go_wp2
      go_roundw
      case rel =>
        refine ⟨k + 1, by omega, by go_num, ((r0.set k _).congr ?_).drew, (r1.other (by omega)).drew, (hB.setCell (by simp) _).drew⟩
        intro j hj
        by_cases hjk : j = k
        · subst hjk; simp [by8]
        · simp [by8, hjk, show (j < k + 1) = (j < k) from by apply propext; omega]
      case measure => simp [intOf]; omega
    · have hk16 : k = 4 := by omega
      subst hk16
      have r0 : Row wr w.heap.size 4 220 (by8 fun j => bx (f j).toNat) := r0.congr (fun j hj => by simp [by8, hj])
      have q0 := heap_pos r0
      have q1 := heap_pos r1
      go_wp2
      refine bodyPost_ret (res63 Tryz.results150 _ _ (w.heap.size + 1) _ rfl _ r1.setRow) rfl ⟨rfl, ?_⟩
      exact Below.setRow hB (by omega) _

set_option maxRecDepth 100000 in
set_option maxHeartbeats 400000 in
theorem shifted_any (f : Nat → UInt8) (w : World) :
    Calls Tryz.prog 137 #[.agg (arr 16 (by8 f))] w fun e w' => e = .returned (.agg (arr 16 (by8 fun j => f ((j + j % 4 * 4) % 16)))) ∧ Below w.heap.size w w' := by
  go_enter Tryz.func137, Tryz.ntmps137
  go_wp2
  go_loopw [6] (fun i wr => ∃ k : Nat, k ≤ 16 ∧ i = .int .i64 k ∧ Row wr w.heap.size 16 145 (by8 f) ∧ Row wr (w.heap.size + 1) 16 145 z8 ∧ Row wr (w.heap.size + 1 + 1) 16 145 (by8 fun j => if j < k then f ((j + j % 4 * 4) % 16) else 0) ∧ Below w.heap.size w wr) (fun i _ => 16 - (intOf i).toNat)
  case atStart =>
    refine ⟨0, by omega, rfl, ?_, ?_, ?_, ?_⟩
    · exact ((Row.new _ _ _ _ _ rfl).alloc _).alloc _
    · exact (Row.new _ _ _ _ _ (by simp)).alloc _
    · refine Row.congr (V := z8) (Row.new _ _ _ _ _ (by simp)) ?_
      intro j hj
      simp [z8, by8]
    · exact (((Below.refl _ _).alloc (Nat.le_refl _) _).alloc (by simp) _).alloc (by simp; omega) _
  case round =>
    obtain ⟨k, hk, rfl, r0, r1, r2, hB⟩ := hrel
    by_cases hlt : k < 16
    · have c0 : wr.cell? ⟨w.heap.size, (k + k % 4 * 4) % 16, none⟩ = some (.int .u8 (f ((k + k % 4 * 4) % 16)).toNat) := r0.cell _ (by omega)
      have c2 := r2.cell k hlt
      have f2 := r2.frozen k
      go_wp2
      go_roundw
      case rel =>
        refine ⟨k + 1, by omega, by go_num, r0.other (by omega), r1.other (by omega), (r2.set k _).congr ?_, hB.setCell (by simp; omega) _⟩
        intro j hj
        by_cases hjk : j = k
        · subst hjk; simp [by8]
        · simp [by8, hjk, show (j < k + 1) = (j < k) from by apply propext; omega]
      case measure => simp [intOf]; omega
    · have hk16 : k = 16 := by omega
      subst hk16
      have r2 : Row wr (w.heap.size + 1 + 1) 16 145 (by8 fun j => f ((j + j % 4 * 4) % 16)) := r2.congr (fun j hj => by simp [by8, hj])
      have q0 := heap_pos r2
      have q1 := heap_pos r1
      go_wp2
      refine bodyPost_ret (res40 Tryz.results137 _ _ (w.heap.size + 1) _ rfl r1.setRow) rfl ⟨rfl, ?_⟩
      exact Below.setRow hB (by omega) _

theorem below_drewN {B : Nat} {a w : World} (h : Below B a w) (n : Nat) : Below B a (w.drewN n) := h.trans ⟨rfl, rfl, rfl, Nat.le_refl _, fun _ _ => rfl⟩
theorem Row.drewN {w : World} {g n : Nat} {t : TypeId} {V : Nat → Value} (h : Row w g n t V) (q : Nat) : Row (w.drewN q) g n t V := h
theorem dbl_x (a b : UInt8) (w : World) : Calls Tryz.prog 148 #[.int .u8 (bits .xor .u8 a.toNat b.toNat)] w fun e w' => e = .returned (.int .u8 (dbl (a ^^^ b)).toNat) ∧ w' = w := by
  rw [u8_xor_b]; exact dbl_any _ w
def mx (f : Nat → UInt8) (j : Nat) : UInt8 :=
  f j ^^^ (f (j / 4 * 4) ^^^ f (j / 4 * 4 + 1) ^^^ f (j / 4 * 4 + 2) ^^^ f (j / 4 * 4 + 3)) ^^^ dbl (f j ^^^ f (j / 4 * 4 + (j % 4 + 1) % 4))
theorem mx_at (f : Nat → UInt8) (c i : Nat) (hi : i < 4) : mx f (4 * c + i) = f (4 * c + i) ^^^ (f (4 * c) ^^^ f (4 * c + 1) ^^^ f (4 * c + 2) ^^^ f (4 * c + 3)) ^^^ dbl (f (4 * c + i) ^^^ f (4 * c + (i + 1) % 4)) := by
  unfold mx
  rw [show (4 * c + i) / 4 * 4 = 4 * c by omega, show (4 * c + i) % 4 = i by omega]

set_option maxRecDepth 100000 in
set_option maxHeartbeats 800000 in
theorem mixed_any (f : Nat → UInt8) (w : World) :
    Calls Tryz.prog 136 #[.agg (arr 16 (by8 f))] w fun e w' => e = .returned (.agg (arr 16 (by8 (mx f)))) ∧ Below w.heap.size w w' := by
  go_enter Tryz.func136, Tryz.ntmps136
  go_wp2
  go_loopw [4] (fun i wr => ∃ c : Nat, c ≤ 4 ∧ i = .int .i64 (4 * (c : Int)) ∧ Row wr w.heap.size 16 145 (by8 f) ∧ Row wr (w.heap.size + 1) 16 145 z8 ∧ Row wr (w.heap.size + 1 + 1) 16 145 (by8 fun j => if j < 4 * c then mx f j else 0) ∧ Below w.heap.size w wr) (fun i _ => 16 - (intOf i).toNat)
  case atStart =>
    refine ⟨0, by omega, rfl, ?_, ?_, ?_, ?_⟩
    · exact ((Row.new _ _ _ _ _ rfl).alloc _).alloc _
    · exact (Row.new _ _ _ _ _ (by simp)).alloc _
    · refine Row.congr (V := z8) (Row.new _ _ _ _ _ (by simp)) ?_
      intro j hj
      simp [z8, by8]
    · exact (((Below.refl _ _).alloc (Nat.le_refl _) _).alloc (by simp) _).alloc (by simp; omega) _
  case round =>
    obtain ⟨c, hc, rfl, r0, r1, r2, hB⟩ := hrel
    by_cases hlt : c < 4
    · have c0 : wr.cell? ⟨w.heap.size, 4 * c, none⟩ = some (.int .u8 (f (4 * c)).toNat) := r0.cell _ (by omega)
      have c1 : wr.cell? ⟨w.heap.size, 4 * c + 1, none⟩ = some (.int .u8 (f (4 * c + 1)).toNat) := r0.cell _ (by omega)
      have c2 : wr.cell? ⟨w.heap.size, 4 * c + 2, none⟩ = some (.int .u8 (f (4 * c + 2)).toNat) := r0.cell _ (by omega)
      have c3 : wr.cell? ⟨w.heap.size, 4 * c + 3, none⟩ = some (.int .u8 (f (4 * c + 3)).toNat) := r0.cell _ (by omega)
      have hd : decide (4 * (c : Int) < 16) = true := by simp; omega
      go_wp2
      go_quiet (fail)
      go_wp2
      clear c0 c1 c2 c3
      go_loopw [31] (fun i wr => ∃ k : Nat, k ≤ 4 ∧ i = .int .i64 k ∧ Row wr w.heap.size 16 145 (by8 f) ∧ Row wr (w.heap.size + 1) 16 145 z8 ∧ Row wr (w.heap.size + 1 + 1) 16 145 (by8 fun j => if j < 4 * c + k then mx f j else 0) ∧ Below w.heap.size w wr) (fun i _ => 4 - (intOf i).toNat)
      case atStart => exact ⟨0, by omega, rfl, r0, r1, r2, below_drewN hB _⟩
      case round =>
        clear r0 r1 r2 hB
        obtain ⟨k, hk, rfl, r0, r1, r2, hB⟩ := hrel
        by_cases hkl : k < 4
        · have c0 : wr.cell? ⟨w.heap.size, 4 * c + k, none⟩ = some (.int .u8 (f (4 * c + k)).toNat) := r0.cell _ (by omega)
          have c1 : wr.cell? ⟨w.heap.size, 4 * c + (k + 1) % 4, none⟩ = some (.int .u8 (f (4 * c + (k + 1) % 4)).toNat) := r0.cell _ (by omega)
          have c2 := r2.cell (4 * c + k) (by omega)
          have f2 := r2.frozen (4 * c + k)
          go_wp2
          go_quiet (fail)
          go_wp2_with fail
          refine (dbl_x _ _ _).mono ?_
          rintro e wy ⟨rfl, hwy⟩
          have r0 := r0.drewN nq
          have r1 := r1.drewN nq
          have r2 := r2.drewN nq
          have hB := below_drewN hB nq
          rw [← hwy] at r0 r1 r2 hB
          clear c0 c1 c2 f2
          have c2 := r2.cell (4 * c + k) (by omega)
          have f2 := r2.frozen (4 * c + k)
          clear hwy
          go_wp2
          go_roundw
          case rel =>
            refine ⟨k + 1, by omega, by go_num, r0.other (by omega), r1.other (by omega), (r2.set (4 * c + k) _).congr ?_, hB.setCell (by simp; omega) _⟩
            intro j hj
            by_cases hjk : j = 4 * c + k
            · subst hjk
              simp only [if_true, by8]
              rw [if_pos (by omega), mx_at f c k hkl]
              simp only [u8_xor_b]
            · simp only [by8, hjk, if_false]
              by_cases h3 : j < 4 * c + k
              · rw [if_pos h3, if_pos (by omega)]
              · rw [if_neg h3, if_neg (by omega)]
          case measure => simp [intOf]; omega
        · have hk4 : k = 4 := by omega
          subst hk4
          go_wp2
          refine ⟨⟨c + 1, by omega, by go_num, r0, r1, r2, hB⟩, by simp [intOf]; omega⟩
    · have hk16 : c = 4 := by omega
      subst hk16
      have r2 : Row wr (w.heap.size + 1 + 1) 16 145 (by8 (mx f)) := r2.congr (fun j hj => by simp [by8, show j < 4 * 4 by omega])
      have q0 := heap_pos r2
      have q1 := heap_pos r1
      go_wp2
      refine bodyPost_ret (res40 Tryz.results136 _ _ (w.heap.size + 1) _ rfl r1.setRow) rfl ⟨rfl, ?_⟩
      exact Below.setRow hB (by omega) _
end Go.Proofs.YtgalgjmhdbncbaaGreat
