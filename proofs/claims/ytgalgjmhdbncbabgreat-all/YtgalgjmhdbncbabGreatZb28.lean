import Derived.Test.YtgalgjmhdbncbabGreatZb13
import Derived.ChangeKeysEq
namespace Go.Proofs.YtgalgjmhdbncbabGreat
open Go.RowKit

theorem part_i (f : Nat → UInt8) (w : World) : ∀ i, i < 16 → (part 5 (arr 16 (by8 f)) (i * Tryz.prog.cellsOf 5)).run Tryz.prog w = .ok (by8 f i) w
  | 0, _ => by kernel_rfl
  | 1, _ => by kernel_rfl
  | 2, _ => by kernel_rfl
  | 3, _ => by kernel_rfl
  | 4, _ => by kernel_rfl
  | 5, _ => by kernel_rfl
  | 6, _ => by kernel_rfl
  | 7, _ => by kernel_rfl
  | 8, _ => by kernel_rfl
  | 9, _ => by kernel_rfl
  | 10, _ => by kernel_rfl
  | 11, _ => by kernel_rfl
  | 12, _ => by kernel_rfl
  | 13, _ => by kernel_rfl
  | 14, _ => by kernel_rfl
  | 15, _ => by kernel_rfl
  | n + 16, h => absurd h (by omega)
theorem items_arr (f g : Nat → UInt8) (d : Nat) (w : World) : ∀ is : List Nat, (∀ i, i ∈ is → i < 16) →
    (Op.eqItems (d + 1) 5 (Tryz.prog.cellsOf 5) (arr 16 (by8 f)) (arr 16 (by8 g)) is).run Tryz.prog w = .ok (is.all fun i => f i == g i) w
  | [], _ => by simp [Op.eqItems]
  | i :: is, h => by
    have e := run_equalIn_int (P := Tryz.prog) (w := w) d 5 .u8 .u8 ((f i).toNat : Int) ((g i).toNat : Int) Tryz.underlying5
    have e2 : (((f i).toNat : Int) == ((g i).toNat : Int)) = (f i == g i) := by
      rw [Bool.eq_iff_iff, beq_iff_eq, beq_iff_eq]
      constructor
      · intro h; exact UInt8.toNat_inj.1 (by omega)
      · intro h; rw [h]
    rw [e2] at e
    have ih := items_arr f g d w is (fun k hk => h k (List.mem_cons_of_mem _ hk))
    simp only [Op.eqItems, Sem.run_bind, part_i f w i (h i (List.mem_cons_self)), part_i g w i (h i (List.mem_cons_self)), Result.andThen_ok, by8, e, List.all_cons]
    by_cases hb : f i = g i
    · rw [hb]
      simp only [beq_self_eq_true, Bool.not_true, Bool.false_eq_true, if_false, Bool.true_and]
      exact ih
    · rw [beq_eq_false_iff_ne.2 hb]
      simp
def same16 (f g : Nat → UInt8) : Bool := (List.range 16).all fun i => f i == g i
theorem same16_iff (f g : Nat → UInt8) : same16 f g = true ↔ str 16 f = str 16 g := by
  unfold same16
  rw [List.all_eq_true]
  constructor
  · intro h
    exact str_congr fun j hj => by simpa using h j (by simpa using hj)
  · intro h i hi
    have e := congrArg (fun s => sf s i) h
    have hi' : i < 16 := by simpa using hi
    rw [sf_str _ _ _ hi', sf_str _ _ _ hi'] at e
    simpa using e
theorem run_eq53 (f g : Nat → UInt8) (w : World) : Sem.run Tryz.prog (Op.equalIn 10000 141 (.agg (arr 16 (by8 f))) (.agg (arr 16 (by8 g)))) w = .ok (same16 f g) w := by
  obtain ⟨i, hi⟩ : ∃ i, Tryz.prog.info? 5 = some i := by
    have h := info5
    rw [Option.map_eq_some_iff] at h
    obtain ⟨i, hi, _⟩ := h
    exact ⟨i, hi⟩
  have h := run_equalIn_array (P := Tryz.prog) w 9999 (arr 16 (by8 f)) (arr 16 (by8 g)) Tryz.underlying141 hi
  refine h.trans ?_
  exact items_arr f g 9998 w (List.range 16) (fun i hi => by simpa using hi)
attribute [local go_sem ↓] Go.wp_at_zero Go.wp_at_succ
attribute [local go_sem ↓] ldw40 stw40 al40
attribute [local go_sem] run_ldT40 ldN_row run_stT40 stN_row stN_z run_al40 run_eq53
attribute [local go_sem] blk_new blk_at blk_old blk_drew blk_setCell blk_setRow alloc_setRow

theorem res40c {fn : Func} {p u : Tmp} (h : fn.results = #[.tmp u, .cell p 141]) (tmps : Array Value) (w : World) (g : Nat) (V : Nat → Value) (v : Value)
    (hp : tmps.getD p undef = .pointer (some ⟨g, 0, none⟩)) (hv : tmps.getD u undef = v) (hg : Row w g 16 141 V) : (results fn tmps).run Tryz.prog w = .ok (.tuple #[v, .agg (arr 16 V)]) w := by
  have hp' : tmps[p]?.getD undef = .pointer (some ⟨g, 0, none⟩) := by simpa using hp
  have hv' : tmps[u]?.getD undef = v := by simpa using hv
  have hl := run_loadVar_row (P := Tryz.prog) w g 141 141 _ (0, 0) _ hg Tryz.underlying141 rfl (by rw [arr_size]; exact info40)
  simp [results, h, hp', hv', asAddr, hl]
set_option maxRecDepth 100000 in
set_option maxHeartbeats 1000000 in
theorem mseal_any (g gc : Nat) (key n m p : ByteArray) (hk : KeyLen key.size) (hn : n.size ≤ 40) (hm : m.size ≤ 200) (hp : p.size ≤ 200) (w : World) (hM : Mod w g gc key) :
    Calls Tryz.prog 86 #[.pointer (some ⟨g, 0, none⟩), .string n, .string m, .string p] w fun e w' => e = .returned (.tuple #[.string (maskT key (firstF key n) p), .agg (arr 16 (by8 (tagF key (firstF key n) m (maskT key (firstF key n) p))))]) ∧ Below w.heap.size w w' := by
  have HK : Hid _ := hk
  have hz := maskT_size key (firstF key n) p
  have hlt := hM.lt
  clear hk
  have hf := fun w' hM' => first_any g gc key n (by omega) w' hM'
  generalize firstF key n = J at *
  have HF : Hid _ := hf
  clear hf
  go_enter Tryz.func86, Tryz.ntmps86
  go_wp2_with fail
  refine (HF.out _ (hM.alloc _)).mono ?_
  rintro e w1 ⟨rfl, b1⟩
  have M1 := (hM.alloc (.cells (arr 16 z8) 141)).keep b1
  have R0 : Row w1 w.heap.size 16 141 z8 := Row.keep (Row.new w 16 141 z8 _ rfl) b1 (by simp)
  have B1 : Below w.heap.size w w1 := ((Below.refl _ w).alloc (Nat.le_refl _) (.cells (arr 16 z8) 141)).trans (b1.mono (by simp))
  clear hM b1
  have l0 := R0.lt
  go_wp2_with fail
  refine (crossed_any g gc key p J HK.out (by omega) _ (M1.alloc _)).mono ?_
  rintro e w2 ⟨rfl, b2⟩
  have M2 := (M1.alloc (.cells (arr 16 (by8 J)) 141)).keep b2
  have R2 := (R0.alloc (.cells (arr 16 (by8 J)) 141)).keep b2 (by simp; omega)
  have R3 : Row w2 w1.heap.size 16 141 (by8 J) := Row.keep (Row.new w1 16 141 (by8 J) _ rfl) b2 (by simp)
  have B2 : Below w.heap.size w w2 := (B1.alloc B1.size (.cells (arr 16 (by8 J)) 141)).trans (b2.mono (by have := B1.size; simp; omega))
  clear M1 R0 b2
  have q3 := heap_pos R3
  go_wp2_with fail
  refine (tag_any g gc key m _ J HK.out (by omega) (by omega) _ M2).mono ?_
  rintro e w3 ⟨rfl, b3⟩
  have R4 := R2.keep b3 R2.lt
  have B3 := B2.trans (b3.mono B2.size)
  clear q3
  have q4 := heap_pos R4
  go_wp2
  refine bodyPost_ret (res40c Tryz.results86 _ _ w.heap.size _ _ rfl rfl R4.setRow) rfl ⟨rfl, ?_⟩
  exact Below.setRow B3 (Nat.le_refl _) _
end Go.Proofs.YtgalgjmhdbncbabGreat
namespace Go.Proofs.YtgalgjmhdbncbabGreat
open Go.RowKit
attribute [local go_sem ↓] Go.wp_at_zero Go.wp_at_succ
attribute [local go_sem ↓] ldw40 stw40 al40
attribute [local go_sem] run_ldT40 ldN_row run_stT40 stN_row stN_z run_al40 run_eq53
attribute [local go_sem] blk_new blk_at blk_old blk_drew blk_setCell blk_setRow alloc_setRow
structure SO (w0 w : World) (n g gc a : Nat) (key : ByteArray) (t J : Nat → UInt8) : Prop where
  m : Mod w g gc key
  r0 : Row w n 16 141 (by8 t)
  r1 : Row w a 16 141 (by8 J)
  b : Below n w0 w
theorem SO.drew {w0 w : World} {n g gc a : Nat} {key : ByteArray} {t J : Nat → UInt8} (h : SO w0 w n g gc a key t J) : SO w0 w.drew n g gc a key t J := ⟨h.m.drew, h.r0, h.r1, h.b.drew⟩
theorem SO.keep {w0 w w1 : World} {n g gc a : Nat} {key : ByteArray} {t J : Nat → UInt8} (h : SO w0 w n g gc a key t J) (hb : Below w.heap.size w w1) : SO w0 w1 n g gc a key t J :=
  ⟨h.m.keep hb, h.r0.keep hb h.r0.lt, h.r1.keep hb h.r1.lt, h.b.trans (hb.mono (Nat.le_of_lt h.r0.lt))⟩
set_option maxRecDepth 100000 in
set_option maxHeartbeats 1000000 in
theorem mopen_yes (g gc : Nat) (key n m b : ByteArray) (t : Nat → UInt8) (hk : KeyLen key.size) (hn : n.size ≤ 40) (hm : m.size ≤ 200) (hb : b.size ≤ 200) (ht : str 16 (tagF key (firstF key n) m b) = str 16 t) (w : World) (hM : Mod w g gc key) :
    Calls Tryz.prog 91 #[.pointer (some ⟨g, 0, none⟩), .string n, .string m, .string b, .agg (arr 16 (by8 t))] w fun e w' => e = .returned (.tuple #[.string (maskT key (firstF key n) b), .bool true]) ∧ Below w.heap.size w w' := by
  have HK : Hid _ := hk
  have hlt := hM.lt
  clear hk
  have hf := fun w' hM' => first_any g gc key n (by omega) w' hM'
  generalize firstF key n = J at *
  have hs := (same16_iff _ _).2 ht
  have HF : Hid _ := hf
  clear hf ht
  go_enter Tryz.func91, Tryz.ntmps91
  go_wp2_with fail
  refine (HF.out _ (hM.alloc _)).mono ?_
  rintro e w1 ⟨rfl, b1⟩
  have S1 : SO w (w1.alloc (.cells (arr 16 (by8 J)) 141)) w.heap.size g gc w1.heap.size key t J :=
    ⟨((hM.alloc (.cells (arr 16 (by8 t)) 141)).keep b1).alloc _, (Row.keep (Row.new w 16 141 (by8 t) _ rfl) b1 (by simp)).alloc _, Row.new _ _ _ _ _ rfl,
      (((Below.refl _ w).alloc (Nat.le_refl _) (.cells (arr 16 (by8 t)) 141)).trans (b1.mono (by simp))).alloc (by have := b1.size; simp at this; omega) _⟩
  clear hM HF
  go_wp2_with fail
  suffices H : ∀ W, SO w W w.heap.size g gc w1.heap.size key t J → Code.wp Tryz.prog _ _ _ W from H _ S1
  intro W hS
  clear S1 b1
  have q0 := heap_pos hS.r0
  have q1 := heap_pos hS.r1
  go_region_with (first
    | (go_at_call 120; refine (tag_any g gc key m b J HK.out (by omega) (by omega) _ hS.drew.m).mono ?_; rintro e w2 ⟨rfl, b2⟩; have hS := hS.drew.keep b2; have q0 := heap_pos hS.r0; have q1 := heap_pos hS.r1))
  all_goals
    go_wp2_with fail
    refine (crossed_any g gc key b J HK.out (by omega) _ hS.m).mono ?_
    rintro e w3 ⟨rfl, b3⟩
    have hS := hS.keep b3
    go_wp2
    go_ret2
    exact ⟨rfl, hS.b⟩
set_option maxRecDepth 100000 in
set_option maxHeartbeats 1000000 in
theorem mopen_no (g gc : Nat) (key n m b : ByteArray) (t : Nat → UInt8) (hk : KeyLen key.size) (hn : n.size ≤ 40) (hm : m.size ≤ 200) (hb : b.size ≤ 200) (ht : str 16 (tagF key (firstF key n) m b) ≠ str 16 t) (w : World) (hM : Mod w g gc key) :
    Calls Tryz.prog 91 #[.pointer (some ⟨g, 0, none⟩), .string n, .string m, .string b, .agg (arr 16 (by8 t))] w fun e w' => e = .returned (.tuple #[.string ⟨#[]⟩, .bool false]) ∧ Below w.heap.size w w' := by
  have HK : Hid _ := hk
  have hlt := hM.lt
  clear hk
  have hf := fun w' hM' => first_any g gc key n (by omega) w' hM'
  generalize firstF key n = J at *
  have hs : same16 (tagF key J m b) t = false := by
    cases h : same16 (tagF key J m b) t
    · rfl
    · exact absurd ((same16_iff _ _).1 h) ht
  have HF : Hid _ := hf
  clear hf ht
  go_enter Tryz.func91, Tryz.ntmps91
  go_wp2_with fail
  refine (HF.out _ (hM.alloc _)).mono ?_
  rintro e w1 ⟨rfl, b1⟩
  have S1 : SO w (w1.alloc (.cells (arr 16 (by8 J)) 141)) w.heap.size g gc w1.heap.size key t J :=
    ⟨((hM.alloc (.cells (arr 16 (by8 t)) 141)).keep b1).alloc _, (Row.keep (Row.new w 16 141 (by8 t) _ rfl) b1 (by simp)).alloc _, Row.new _ _ _ _ _ rfl,
      (((Below.refl _ w).alloc (Nat.le_refl _) (.cells (arr 16 (by8 t)) 141)).trans (b1.mono (by simp))).alloc (by have := b1.size; simp at this; omega) _⟩
  clear hM HF
  go_wp2_with fail
  suffices H : ∀ W, SO w W w.heap.size g gc w1.heap.size key t J → Code.wp Tryz.prog _ _ _ W from H _ S1
  intro W hS
  clear S1 b1
  have q0 := heap_pos hS.r0
  have q1 := heap_pos hS.r1
  go_region_with (first
    | (go_at_call 120; refine (tag_any g gc key m b J HK.out (by omega) (by omega) _ hS.drew.m).mono ?_; rintro e w2 ⟨rfl, b2⟩; have hS := hS.drew.keep b2; have q0 := heap_pos hS.r0; have q1 := heap_pos hS.r1))
  all_goals
    go_wp2
    go_ret2
    exact ⟨rfl, hS.b⟩
end Go.Proofs.YtgalgjmhdbncbabGreat
namespace Go.Proofs.YtgalgjmhdbncbabGreat
open Go.RowKit
attribute [local go_sem ↓] Go.wp_at_zero Go.wp_at_succ
attribute [local go_sem ↓] ldw40 stw40 al40
attribute [local go_sem] run_ldT40 ldN_row run_stT40 stN_row stN_z run_al40
attribute [local go_sem] blk_new blk_at blk_old blk_drew blk_setCell blk_setRow alloc_setRow

def NonceLen (n : Nat) : Prop := 1 ≤ n ∧ n ≤ 40
set_option maxRecDepth 100000 in
set_option maxHeartbeats 1000000 in
theorem ready_key (key n : ByteArray) (hs : key.size ≤ maxLen) (hk : ¬ KeyLen key.size) (w : World) :
    Calls Tryz.prog 85 #[.string key, .string n] w fun e w' => e = .returned (.tuple #[.pointer none, .int .i64 2]) ∧ Below w.heap.size w w' := by
  go_enter Tryz.func85, Tryz.ntmps85
  go_wp2_with fail
  refine (gnew_no key hs hk _).mono ?_
  rintro e w1 ⟨rfl, hw⟩
  subst hw
  go_wp2
  go_ret2
  exact ⟨rfl, Below.refl _ _⟩
set_option maxRecDepth 100000 in
set_option maxHeartbeats 1000000 in
theorem ready_nonce (key n : ByteArray) (hs : key.size ≤ maxLen) (hk : KeyLen key.size) (hn : ¬ NonceLen n.size) (hz : n.size ≤ maxLen) (w : World) :
    Calls Tryz.prog 85 #[.string key, .string n] w fun e w' => e = .returned (.tuple #[.pointer none, .int .i64 3]) ∧ Below w.heap.size w w' := by
  have HK : Hid _ := hk
  unfold maxLen at hz
  unfold NonceLen at hn
  clear hk
  by_cases h1 : n.size < 1
  · clear hn
    go_enter Tryz.func85, Tryz.ntmps85
    go_wp2_with fail
    refine (gnew_yes key hs HK.out _).mono ?_
    rintro e w1 ⟨g, gc, rfl, _, _, _, hb⟩
    go_wp2
    go_ret2
    exact ⟨rfl, hb⟩
  · have h2 : 40 < n.size := by omega
    clear hn
    go_enter Tryz.func85, Tryz.ntmps85
    go_wp2_with fail
    refine (gnew_yes key hs HK.out _).mono ?_
    rintro e w1 ⟨g, gc, rfl, _, _, _, hb⟩
    go_wp2
    go_ret2
    exact ⟨rfl, hb⟩
set_option maxRecDepth 100000 in
set_option maxHeartbeats 1000000 in
theorem ready_ok (key n : ByteArray) (hs : key.size ≤ maxLen) (hk : KeyLen key.size) (hn : NonceLen n.size) (w : World) :
    Calls Tryz.prog 85 #[.string key, .string n] w fun e w' => ∃ g gc, e = .returned (.tuple #[.pointer (some ⟨g, 0, none⟩), .int .i64 0]) ∧ w.heap.size ≤ g ∧ w.heap.size ≤ gc ∧ Mod w' g gc key ∧ Below w.heap.size w w' := by
  have HK : Hid _ := hk
  obtain ⟨h1, h2⟩ := hn
  clear hk
  go_enter Tryz.func85, Tryz.ntmps85
  go_wp2_with fail
  refine (gnew_yes key hs HK.out _).mono ?_
  rintro e w1 ⟨g, gc, rfl, hg, hgc, hM, hb⟩
  go_wp2
  go_ret2
  exact ⟨g, gc, rfl, hg, hgc, hM, hb⟩

set_option maxRecDepth 100000 in
set_option maxHeartbeats 1000000 in
theorem seal_key (key n m p : ByteArray) (hs : key.size ≤ maxLen) (hk : ¬ KeyLen key.size) (w : World) :
    Calls Tryz.prog 41 #[.string key, .string n, .string m, .string p] w fun e w' => e = .returned (.tuple #[.string ⟨#[]⟩, .int .i64 2]) ∧ Below w.heap.size w w' := by
  go_enter Tryz.func41, Tryz.ntmps41
  go_wp2_with fail
  refine (ready_key key n hs hk _).mono ?_
  rintro e w1 ⟨rfl, hb⟩
  go_wp2
  go_ret2
  exact ⟨rfl, hb⟩
set_option maxRecDepth 100000 in
set_option maxHeartbeats 1000000 in
theorem seal_nonce (key n m p : ByteArray) (hs : key.size ≤ maxLen) (hk : KeyLen key.size) (hn : ¬ NonceLen n.size) (hz : n.size ≤ maxLen) (w : World) :
    Calls Tryz.prog 41 #[.string key, .string n, .string m, .string p] w fun e w' => e = .returned (.tuple #[.string ⟨#[]⟩, .int .i64 3]) ∧ Below w.heap.size w w' := by
  go_enter Tryz.func41, Tryz.ntmps41
  go_wp2_with fail
  refine (ready_nonce key n hs hk hn hz _).mono ?_
  rintro e w1 ⟨rfl, hb⟩
  go_wp2
  go_ret2
  exact ⟨rfl, hb⟩
set_option maxRecDepth 100000 in
set_option maxHeartbeats 1000000 in
theorem seal_long (key n m p : ByteArray) (hs : key.size ≤ maxLen) (hk : KeyLen key.size) (hn : NonceLen n.size) (hl : 200 < m.size ∨ 200 < p.size) (hm : m.size ≤ maxLen) (hp : p.size ≤ maxLen) (w : World) :
    Calls Tryz.prog 41 #[.string key, .string n, .string m, .string p] w fun e w' => e = .returned (.tuple #[.string ⟨#[]⟩, .int .i64 4]) ∧ Below w.heap.size w w' := by
  have HK : Hid _ := hk
  have HN : Hid _ := hn
  unfold maxLen at hm hp
  clear hk hn
  by_cases h1 : 200 < m.size
  · clear hl
    go_enter Tryz.func41, Tryz.ntmps41
    go_wp2_with fail
    refine (ready_ok key n hs HK.out HN.out _).mono ?_
    rintro e w1 ⟨g, gc, rfl, _, _, _, hb⟩
    go_wp2
    go_ret2
    exact ⟨rfl, hb⟩
  · have h2 : 200 < p.size := by omega
    clear hl
    go_enter Tryz.func41, Tryz.ntmps41
    go_wp2_with fail
    refine (ready_ok key n hs HK.out HN.out _).mono ?_
    rintro e w1 ⟨g, gc, rfl, _, _, _, hb⟩
    go_wp2
    go_ret2
    exact ⟨rfl, hb⟩
set_option maxRecDepth 100000 in
set_option maxHeartbeats 1000000 in
theorem seal_ok (key n m p : ByteArray) (hs : key.size ≤ maxLen) (hk : KeyLen key.size) (hn : NonceLen n.size) (hm : m.size ≤ 200) (hp : p.size ≤ 200) (w : World) :
    Calls Tryz.prog 41 #[.string key, .string n, .string m, .string p] w fun e w' => e = .returned (.tuple #[.string (sealT key n m p), .int .i64 0]) ∧ Below w.heap.size w w' := by
  have HK : Hid _ := hk
  have HN : Hid _ := hn
  have hz := maskT_size key (firstF key n) p
  have hz2 := str_size 16 (tagF key (firstF key n) m (maskT key (firstF key n) p))
  have HT : Hid (sealT key n m p = maskT key (firstF key n) p ++ str 16 (tagF key (firstF key n) m (maskT key (firstF key n) p))) := rfl
  clear hk hn
  go_enter Tryz.func41, Tryz.ntmps41
  go_wp2_with fail
  refine (ready_ok key n hs HK.out HN.out _).mono ?_
  rintro e w1 ⟨g, gc, rfl, hg, hgc, hM, hb⟩
  go_wp2_with fail
  refine (mseal_any g gc key n m p HK.out HN.out.2 hm hp _ hM).mono ?_
  rintro e w2 ⟨rfl, b2⟩
  go_wp2_with fail
  refine (text_any _ _).mono ?_
  rintro e w3 ⟨rfl, b3⟩
  go_wp2
  go_ret2
  have z1 := hb.size
  have z2 := b2.size
  refine ⟨by rw [HT.out]; rfl, ((hb.trans (b2.mono z1)).alloc (by omega) _).trans (b3.mono (by simp; omega))⟩

set_option maxRecDepth 100000 in
set_option maxHeartbeats 1000000 in
theorem open_key (key n m p : ByteArray) (hs : key.size ≤ maxLen) (hk : ¬ KeyLen key.size) (w : World) :
    Calls Tryz.prog 43 #[.string key, .string n, .string m, .string p] w fun e w' => e = .returned (.tuple #[.string ⟨#[]⟩, .int .i64 2]) ∧ Below w.heap.size w w' := by
  go_enter Tryz.func43, Tryz.ntmps43
  go_wp2_with fail
  refine (ready_key key n hs hk _).mono ?_
  rintro e w1 ⟨rfl, hb⟩
  go_wp2
  go_ret2
  exact ⟨rfl, hb⟩
set_option maxRecDepth 100000 in
set_option maxHeartbeats 1000000 in
theorem open_nonce (key n m p : ByteArray) (hs : key.size ≤ maxLen) (hk : KeyLen key.size) (hn : ¬ NonceLen n.size) (hz : n.size ≤ maxLen) (w : World) :
    Calls Tryz.prog 43 #[.string key, .string n, .string m, .string p] w fun e w' => e = .returned (.tuple #[.string ⟨#[]⟩, .int .i64 3]) ∧ Below w.heap.size w w' := by
  go_enter Tryz.func43, Tryz.ntmps43
  go_wp2_with fail
  refine (ready_nonce key n hs hk hn hz _).mono ?_
  rintro e w1 ⟨rfl, hb⟩
  go_wp2
  go_ret2
  exact ⟨rfl, hb⟩
set_option maxRecDepth 100000 in
set_option maxHeartbeats 1000000 in
theorem open_long (key n m p : ByteArray) (hs : key.size ≤ maxLen) (hk : KeyLen key.size) (hn : NonceLen n.size) (hl : 200 < m.size ∨ 216 < p.size) (hm : m.size ≤ maxLen) (hp : p.size ≤ maxLen) (w : World) :
    Calls Tryz.prog 43 #[.string key, .string n, .string m, .string p] w fun e w' => e = .returned (.tuple #[.string ⟨#[]⟩, .int .i64 4]) ∧ Below w.heap.size w w' := by
  have HK : Hid _ := hk
  have HN : Hid _ := hn
  unfold maxLen at hm hp
  clear hk hn
  by_cases h1 : 200 < m.size
  · clear hl
    go_enter Tryz.func43, Tryz.ntmps43
    go_wp2_with fail
    refine (ready_ok key n hs HK.out HN.out _).mono ?_
    rintro e w1 ⟨g, gc, rfl, _, _, _, hb⟩
    go_wp2
    go_ret2
    exact ⟨rfl, hb⟩
  · have h2 : 216 < p.size := by omega
    clear hl
    go_enter Tryz.func43, Tryz.ntmps43
    go_wp2_with fail
    refine (ready_ok key n hs HK.out HN.out _).mono ?_
    rintro e w1 ⟨g, gc, rfl, _, _, _, hb⟩
    go_wp2
    go_ret2
    exact ⟨rfl, hb⟩
set_option maxRecDepth 100000 in
set_option maxHeartbeats 1000000 in
theorem open_size (key n m p : ByteArray) (hs : key.size ≤ maxLen) (hk : KeyLen key.size) (hn : NonceLen n.size) (hm : m.size ≤ 200) (hp : p.size < 16) (w : World) :
    Calls Tryz.prog 43 #[.string key, .string n, .string m, .string p] w fun e w' => e = .returned (.tuple #[.string ⟨#[]⟩, .int .i64 5]) ∧ Below w.heap.size w w' := by
  have HK : Hid _ := hk
  have HN : Hid _ := hn
  clear hk hn
  go_enter Tryz.func43, Tryz.ntmps43
  go_wp2_with fail
  refine (ready_ok key n hs HK.out HN.out _).mono ?_
  rintro e w1 ⟨g, gc, rfl, _, _, _, hb⟩
  go_wp2
  go_ret2
  exact ⟨rfl, hb⟩
end Go.Proofs.YtgalgjmhdbncbabGreat
namespace Go.Proofs.YtgalgjmhdbncbabGreat
open Go.RowKit
attribute [local go_sem ↓] Go.wp_at_zero Go.wp_at_succ
attribute [local go_sem ↓] ldw40 stw40 al40
attribute [local go_sem] run_ldT40 ldN_row run_stT40 stN_row stN_z run_al40
attribute [local go_sem] blk_new blk_at blk_old blk_drew blk_setCell blk_setRow alloc_setRow

structure SP (w0 w : World) (B g gc a : Nat) (key : ByteArray) (t : Nat → UInt8) : Prop where
  m : Mod w g gc key
  r : Row w a 16 141 (by8 t)
  b : Below B w0 w
  l : B ≤ w.heap.size
theorem SP.drew {w0 w : World} {B g gc a : Nat} {key : ByteArray} {t : Nat → UInt8} (h : SP w0 w B g gc a key t) : SP w0 w.drew B g gc a key t := ⟨h.m.drew, h.r, h.b.drew, h.l⟩
theorem SP.keep {w0 w w1 : World} {B g gc a : Nat} {key : ByteArray} {t : Nat → UInt8} (h : SP w0 w B g gc a key t) (hb : Below w.heap.size w w1) : SP w0 w1 B g gc a key t :=
  ⟨h.m.keep hb, h.r.keep hb h.r.lt, h.b.trans (hb.mono h.l), Nat.le_trans h.l hb.size⟩
set_option maxRecDepth 100000 in
set_option maxHeartbeats 1000000 in
theorem open_mid (key n m p : ByteArray) (hs : key.size ≤ maxLen) (hk : KeyLen key.size) (hn : NonceLen n.size) (hm : m.size ≤ 200) (hp : 16 ≤ p.size) (hp2 : p.size ≤ 216) (v : Value) (x : ByteArray) (ok : Bool) (c : Int)
    (hc : v = .tuple #[.string x, .int .i64 c]) (hok : (ok = true ∧ c = 0) ∨ (ok = false ∧ c = 6 ∧ x = ⟨#[]⟩))
    (hO : ∀ (g gc : Nat) (w : World), Mod w g gc key → Calls Tryz.prog 91 #[.pointer (some ⟨g, 0, none⟩), .string n, .string m, .string (p.extract 0 (p.size - 16)), .agg (arr 16 (by8 (sf (p.extract (p.size - 16) p.size))))] w fun e w' => e = .returned (.tuple #[.string x, .bool ok]) ∧ Below w.heap.size w w') (w : World) :
    Calls Tryz.prog 43 #[.string key, .string n, .string m, .string p] w fun e w' => e = .returned v ∧ Below w.heap.size w w' := by
  subst hc
  have HK : Hid _ := hk
  have HN : Hid _ := hn
  obtain ⟨E, hE⟩ : ∃ E, p.size = E + 16 := ⟨p.size - 16, by omega⟩
  have hcut := cut_size p E p.size (Nat.le_refl _)
  rw [show p.size - 16 = E by omega] at hO
  have HO : Hid _ := hO
  have hi : ((p.size : Int) - 16) = (E : Int) := by omega
  have hE2 : (E : Int) ≤ (p.size : Int) := by omega
  have hE3 : E ≤ p.size := by omega
  have HC : Hid ((p.extract E p.size).size = 16) := by show _ = _; omega
  clear hk hn hO hcut hE
  go_enter Tryz.func43, Tryz.ntmps43
  go_wp2_with fail
  refine (ready_ok key n hs HK.out HN.out _).mono ?_
  rintro e w1 ⟨g, gc, rfl, hg, hgc, hM, hb⟩
  go_wp2_with fail
  refine (of_yes _ _ HC.out).mono ?_
  rintro e w2 ⟨rfl, b2⟩
  generalize ht : sf (p.extract E p.size) = t at *
  have S1 : SP w (w2.alloc (.cells (arr 16 (by8 t)) 141)) w.heap.size g gc w2.heap.size key t :=
    ⟨(hM.keep b2).alloc _, Row.new _ _ _ _ _ rfl, (hb.trans (b2.mono hb.size)).alloc (Nat.le_trans hb.size b2.size) _, by have := hb.size; have := b2.size; simp; omega⟩
  clear hM hb b2
  go_wp2_with fail
  suffices H : ∀ W, SP w W w.heap.size g gc w2.heap.size key t → Code.wp Tryz.prog _ _ _ W from H _ S1
  intro W hS
  clear S1
  have q1 := heap_pos hS.r
  go_region_with (first
    | (go_at_call 91; refine (HO.out g gc _ hS.drew.m).mono ?_; rintro e w3 ⟨rfl, b3⟩; have hS := hS.drew.keep b3))
  all_goals
    rcases hok with ⟨rfl, rfl⟩ | ⟨rfl, rfl, rfl⟩
    · go_wp2
      go_ret2
      exact ⟨rfl, hS.b⟩
    · go_wp2
      go_ret2
      exact ⟨rfl, hS.b⟩
theorem open_yes (key n m p : ByteArray) (hs : key.size ≤ maxLen) (hk : KeyLen key.size) (hn : NonceLen n.size) (hm : m.size ≤ 200) (hp : 16 ≤ p.size) (hp2 : p.size ≤ 216)
    (ht : str 16 (tagF key (firstF key n) m (p.extract 0 (p.size - 16))) = p.extract (p.size - 16) p.size) (w : World) :
    Calls Tryz.prog 43 #[.string key, .string n, .string m, .string p] w fun e w' => e = .returned (.tuple #[.string (maskT key (firstF key n) (p.extract 0 (p.size - 16))), .int .i64 0]) ∧ Below w.heap.size w w' := by
  have hz : (p.extract (p.size - 16) p.size).size = 16 := by rw [cut_size _ _ _ (Nat.le_refl _)]; omega
  have hz2 : (p.extract 0 (p.size - 16)).size ≤ 200 := by rw [cut_size _ _ _ (by omega)]; omega
  refine open_mid key n m p hs hk hn hm hp hp2 _ _ true 0 rfl (.inl ⟨rfl, rfl⟩) (fun g gc w hM => ?_) w
  exact mopen_yes g gc key n m _ _ hk hn.2 hm hz2 (by rw [str_sf _ _ hz]; exact ht) w hM
theorem open_no (key n m p : ByteArray) (hs : key.size ≤ maxLen) (hk : KeyLen key.size) (hn : NonceLen n.size) (hm : m.size ≤ 200) (hp : 16 ≤ p.size) (hp2 : p.size ≤ 216)
    (ht : str 16 (tagF key (firstF key n) m (p.extract 0 (p.size - 16))) ≠ p.extract (p.size - 16) p.size) (w : World) :
    Calls Tryz.prog 43 #[.string key, .string n, .string m, .string p] w fun e w' => e = .returned (.tuple #[.string ⟨#[]⟩, .int .i64 6]) ∧ Below w.heap.size w w' := by
  have hz : (p.extract (p.size - 16) p.size).size = 16 := by rw [cut_size _ _ _ (Nat.le_refl _)]; omega
  have hz2 : (p.extract 0 (p.size - 16)).size ≤ 200 := by rw [cut_size _ _ _ (by omega)]; omega
  refine open_mid key n m p hs hk hn hm hp hp2 _ _ false 6 rfl (.inr ⟨rfl, rfl, rfl⟩) (fun g gc w hM => ?_) w
  exact mopen_no g gc key n m _ _ hk hn.2 hm hz2 (by rw [str_sf _ _ hz]; exact ht) w hM
end Go.Proofs.YtgalgjmhdbncbabGreat
