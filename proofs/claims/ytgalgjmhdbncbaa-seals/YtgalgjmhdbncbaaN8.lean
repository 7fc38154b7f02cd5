import Derived.Test.YtgalgjmhdbncbaaN7
import Derived.ChangeKeysEq
namespace Go.Proofs.Ytgalgjmhdbncbaa
open Go.RowKit

/-! ### arrays compared -/
theorem part_i (f : Nat → UInt8) (w : World) : ∀ i, i < 16 → (part 5 (arr 16 (by8 f)) (i * Try.prog.cellsOf 5)).run Try.prog w = .ok (by8 f i) w
  | 0, _ => by kernel_rfl
  | 1, _ => by kernel_rfl
  | 2, _ => by kernel_rfl
  | 3, _ => by kernel_rfl
  | 4, _ => by kernel_rfl
  | 5, _ => by kernel_rfl
  | 6, _ => by kernel_rfl
  | 7, _ => by kernel_rfl
  | 8, _ => by kernel_rfl
  | 9, _ => by kernel_rfl
  | 10, _ => by kernel_rfl
  | 11, _ => by kernel_rfl
  | 12, _ => by kernel_rfl
  | 13, _ => by kernel_rfl
  | 14, _ => by kernel_rfl
  | 15, _ => by kernel_rfl
  | n + 16, h => absurd h (by omega)
theorem items_arr (f g : Nat → UInt8) (d : Nat) (w : World) : ∀ is : List Nat, (∀ i, i ∈ is → i < 16) →
    (Op.eqItems (d + 1) 5 (Try.prog.cellsOf 5) (arr 16 (by8 f)) (arr 16 (by8 g)) is).run Try.prog w = .ok (is.all fun i => f i == g i) w
  | [], _ => by simp [Op.eqItems]
  | i :: is, h => by
    have e := run_equalIn_int (P := Try.prog) (w := w) d 5 .u8 .u8 ((f i).toNat : Int) ((g i).toNat : Int) Try.underlying5
    have e2 : (((f i).toNat : Int) == ((g i).toNat : Int)) = (f i == g i) := by
      rw [Bool.eq_iff_iff, beq_iff_eq, beq_iff_eq]
      constructor
      · intro h; exact UInt8.toNat_inj.1 (by omega)
      · intro h; rw [h]
    rw [e2] at e
    have ih := items_arr f g d w is (fun k hk => h k (List.mem_cons_of_mem _ hk))
    simp only [Op.eqItems, Sem.run_bind, part_i f w i (h i (List.mem_cons_self)), part_i g w i (h i (List.mem_cons_self)), Result.andThen_ok, by8, e, List.all_cons]
    by_cases hb : f i = g i
    · rw [hb]
      simp only [beq_self_eq_true, Bool.not_true, Bool.false_eq_true, if_false, Bool.true_and]
      exact ih
    · rw [beq_eq_false_iff_ne.2 hb]
      simp
def same16 (f g : Nat → UInt8) : Bool := (List.range 16).all fun i => f i == g i
theorem same16_iff (f g : Nat → UInt8) : same16 f g = true ↔ str 16 f = str 16 g := by
  unfold same16
  rw [List.all_eq_true]
  constructor
  · intro h
    exact str_congr fun j hj => by simpa using h j (by simpa using hj)
  · intro h i hi
    have e := congrArg (fun s => sf s i) h
    have hi' : i < 16 := by simpa using hi
    rw [sf_str _ _ _ hi', sf_str _ _ _ hi'] at e
    simpa using e
theorem run_eq53 (f g : Nat → UInt8) (w : World) : Sem.run Try.prog (Op.equalIn 10000 53 (.agg (arr 16 (by8 f))) (.agg (arr 16 (by8 g)))) w = .ok (same16 f g) w := by
  obtain ⟨i, hi⟩ : ∃ i, Try.prog.info? 5 = some i := by
    have h := info5
    rw [Option.map_eq_some_iff] at h
    obtain ⟨i, hi, _⟩ := h
    exact ⟨i, hi⟩
  have h := run_equalIn_array (P := Try.prog) w 9999 (arr 16 (by8 f)) (arr 16 (by8 g)) Try.underlying53 hi
  refine h.trans ?_
  exact items_arr f g 9998 w (List.range 16) (fun i hi => by simpa using hi)
attribute [local go_sem ↓] Go.wp_at_zero Go.wp_at_succ
attribute [local go_sem ↓] ldw40 stw40 al40
attribute [local go_sem] run_ldT40 ldN_row run_stT40 stN_row stN_z run_al40 run_eq53
attribute [local go_sem] blk_new blk_at blk_old blk_drew blk_setCell blk_setRow alloc_setRow

theorem res40c {fn : Func} {p u : Tmp} (h : fn.results = #[.tmp u, .cell p 53]) (tmps : Array Value) (w : World) (g : Nat) (V : Nat → Value) (v : Value)
    (hp : tmps.getD p undef = .pointer (some ⟨g, 0, none⟩)) (hv : tmps.getD u undef = v) (hg : Row w g 16 53 V) : (results fn tmps).run Try.prog w = .ok (.tuple #[v, .agg (arr 16 V)]) w := by
  have hp' : tmps[p]?.getD undef = .pointer (some ⟨g, 0, none⟩) := by simpa using hp
  have hv' : tmps[u]?.getD undef = v := by simpa using hv
  have hl := run_loadVar_row (P := Try.prog) w g 53 53 _ (0, 0) _ hg Try.underlying53 rfl (by rw [arr_size]; exact info40)
  simp [results, h, hp', hv', asAddr, hl]
set_option maxRecDepth 100000 in
set_option maxHeartbeats 1000000 in
theorem mseal_any (g gc : Nat) (key n m p : ByteArray) (hk : KeyLen key.size) (hn : n.size ≤ 40) (hm : m.size ≤ 200) (hp : p.size ≤ 200) (w : World) (hM : Mod w g gc key) :
    Calls Try.prog 41 #[.pointer (some ⟨g, 0, none⟩), .string n, .string m, .string p] w fun e w' => e = .returned (.tuple #[.string (maskT key (firstF key n) p), .agg (arr 16 (by8 (tagF key (firstF key n) m (maskT key (firstF key n) p))))]) ∧ Below w.heap.size w w' := by
  have HK : Hid _ := hk
  have hz := maskT_size key (firstF key n) p
  have hlt := hM.lt
  clear hk
  have hf := fun w' hM' => first_any g gc key n (by omega) w' hM'
  generalize firstF key n = J at *
  have HF : Hid _ := hf
  clear hf
  go_enter Try.func41, Try.ntmps41
  go_wp2_with fail
  refine (HF.out _ (hM.alloc _)).mono ?_
  rintro e w1 ⟨rfl, b1⟩
  have M1 := (hM.alloc (.cells (arr 16 z8) 53)).keep b1
  have R0 : Row w1 w.heap.size 16 53 z8 := Row.keep (Row.new w 16 53 z8 _ rfl) b1 (by simp)
  have B1 : Below w.heap.size w w1 := ((Below.refl _ w).alloc (Nat.le_refl _) (.cells (arr 16 z8) 53)).trans (b1.mono (by simp))
  clear hM b1
  have l0 := R0.lt
  go_wp2_with fail
  refine (crossed_any g gc key p J HK.out (by omega) _ (M1.alloc _)).mono ?_
  rintro e w2 ⟨rfl, b2⟩
  have M2 := (M1.alloc (.cells (arr 16 (by8 J)) 53)).keep b2
  have R2 := (R0.alloc (.cells (arr 16 (by8 J)) 53)).keep b2 (by simp; omega)
  have R3 : Row w2 w1.heap.size 16 53 (by8 J) := Row.keep (Row.new w1 16 53 (by8 J) _ rfl) b2 (by simp)
  have B2 : Below w.heap.size w w2 := (B1.alloc B1.size (.cells (arr 16 (by8 J)) 53)).trans (b2.mono (by have := B1.size; simp; omega))
  clear M1 R0 b2
  have q3 := heap_pos R3
  go_wp2_with fail
  refine (tag_any g gc key m _ J HK.out (by omega) (by omega) _ M2).mono ?_
  rintro e w3 ⟨rfl, b3⟩
  have R4 := R2.keep b3 R2.lt
  have B3 := B2.trans (b3.mono B2.size)
  clear q3
  have q4 := heap_pos R4
  go_wp2
  refine bodyPost_ret (res40c Try.results41 _ _ w.heap.size _ _ rfl rfl R4.setRow) rfl ⟨rfl, ?_⟩
  exact Below.setRow B3 (Nat.le_refl _) _
end Go.Proofs.Ytgalgjmhdbncbaa
