import Derived.Test.YtgalgjmhdbncbaaA5
namespace Go.Proofs.Ytgalgjmhdbncbaa
open Go.RowKit
attribute [local go_sem ↓] Go.wp_at_zero Go.wp_at_succ
attribute [local go_sem ↓] ld40_wrap st40_wrap
attribute [local go_sem] run_ld40 run_st40 ldRes_row stRes_row stRes_z z16_lit blk_new blk_old blk_drew blk_setCell blk_setRow alloc_setRow

/-- the hash by h of k blocks -/
def hashN (h s : Nat → UInt8) : Nat → Nat → UInt8
  | 0 => fun _ => 0
  | k + 1 => prod (fun j => hashN h s k j ^^^ s (16 * k + j)) h

def strLen : Value → Nat
  | .string s => s.size
  | _ => 0

set_option maxHeartbeats 400000 in
theorem bhash_no (h : Nat → UInt8) (s : ByteArray) (w : World) (hs : s.size ≤ maxLen) (hn : s.size % 16 ≠ 0) :
    Calls Try.prog 39 #[.agg (arr 16 (by8 h)), .string s] w fun e w' =>
      e = .returned (.tuple #[.agg (arr 16 z8), .bool false]) ∧ Below w.heap.size w w' := by
  unfold maxLen at hs
  have hm : (((s.size : Int) % 16) != 0) = true := by rw [bne_iff_ne]; omega
  have R1 : Hid _ := (Row.new (w.alloc (.cells (arr 16 (by8 h)) 53)) 16 53 z8 (w.heap.size + 1) (by simp)).alloc (.cells (arr 16 z8) 53)
  have R2 : Hid _ := Row.new ((w.alloc (.cells (arr 16 (by8 h)) 53)).alloc (.cells (arr 16 z8) 53)) 16 53 z8 (w.heap.size + 1 + 1) (by simp)
  have B1 : Hid _ := ((((Below.refl w.heap.size w).alloc (Nat.le_refl _) (.cells (arr 16 (by8 h)) 53)).alloc (by simp) (.cells (arr 16 z8) 53)).alloc (by simp; omega) (.cells (arr 16 z8) 53))
  go_enter Try.func39, Try.ntmps39
  go_wp2_with (first
    | (refine ld40 rfl _ rfl _ rfl _ R2 ?_)
    | (refine st40' rfl _ _ rfl _ _ rfl rfl _ R1 ?_; intro w2 hc2 r4))
  refine bodyPost_ret (v := .tuple #[.agg (arr 16 z8), .bool false]) (res40b Try.results39 _ _ (w.heap.size + 1) _ _ rfl rfl r4) rfl ⟨rfl, ?_⟩
  exact Below.chg B1 hc2 (by omega)

theorem bytes_isEmpty (t : ByteArray) : t.toList.isEmpty = (t.size == 0) := by
  rw [ByteArray.toList_eq]
  cases t with
  | mk d => cases d with | mk l => cases l <;> rfl
theorem cut_size (s : ByteArray) (i j : Nat) (h : j ≤ s.size) : (s.extract i j).size = j - i := by simp; omega
theorem sf_cut (s : ByteArray) (i j x : Nat) (h : j ≤ s.size) (hx : i + x < j) : sf (s.extract i j) x = sf s (i + x) := by
  simp only [sf]
  rw [show (s.extract i j).data = s.data.extract i j from by simp]
  have h1 : x < (s.data.extract i j).size := by simp; have : s.size = s.data.size := rfl; omega
  have h2 : i + x < s.data.size := by have : s.size = s.data.size := rfl; omega
  have h3 : x < min j s.size - i := by omega
  have h4 : i + x < s.size := h2
  simp [Array.getD, h3, h4]
structure SH (w0 w : World) (n : Nat) (h y : Nat → UInt8) : Prop where
  r0 : Row w n 16 53 (by8 h)
  r1 : Row w (n + 1) 16 53 z8
  r2 : Row w (n + 1 + 1) 16 53 (by8 y)
  b : Below n w0 w

theorem SH.keep {w0 w w1 : World} {n : Nat} {f g : Nat → UInt8} (h : SH w0 w n f g) (hb : Below w.heap.size w w1) : SH w0 w1 n f g :=
  ⟨h.r0.keep hb h.r0.lt, h.r1.keep hb h.r1.lt, h.r2.keep hb h.r2.lt, h.b.trans (hb.mono (Nat.le_of_lt h.r0.lt))⟩
theorem SH.alloc {w0 w : World} {n : Nat} {f g : Nat → UInt8} (h : SH w0 w n f g) (o : Obj) : SH w0 (w.alloc o) n f g :=
  ⟨h.r0.alloc o, h.r1.alloc o, h.r2.alloc o, h.b.alloc (Nat.le_of_lt h.r0.lt) o⟩
structure SN (w0 w : World) (n m : Nat) (h y x : Nat → UInt8) : Prop where
  s : SH w0 w n h y
  r : Row w m 16 53 (by8 x)
theorem SN.drew {w0 w : World} {n m : Nat} {h y x : Nat → UInt8} (a : SN w0 w n m h y x) : SN w0 w.drew n m h y x := ⟨⟨a.s.r0, a.s.r1, a.s.r2, a.s.b.drew⟩, a.r⟩
theorem SN.keep {w0 w w1 : World} {n m : Nat} {h y x : Nat → UInt8} (a : SN w0 w n m h y x) (hb : Below w.heap.size w w1) : SN w0 w1 n m h y x := ⟨a.s.keep hb, a.r.keep hb a.r.lt⟩
theorem pk_congr {f g : Nat → UInt8} : ∀ n, (∀ j, j < n → f j = g j) → pk f n = pk g n
  | 0, _ => rfl
  | n + 1, h => by
    simp only [pk]
    rw [pk_congr n (fun j hj => h j (by omega)), h n (by omega)]
theorem prod_congr {f f' g g' : Nat → UInt8} (h : ∀ j, j < 16 → f j = f' j) (h' : ∀ j, j < 16 → g j = g' j) : prod f g = prod f' g' := by
  unfold prod prodSt
  rw [pk_congr 8 (fun j hj => h j (by omega)), pk_congr 8 (fun j hj => h' j (by omega)), pk_congr (f := fun j => f (8 + j)) (g := fun j => f' (8 + j)) 8 (fun j hj => h (8 + j) (by omega)),
    pk_congr (f := fun j => g (8 + j)) (g := fun j => g' (8 + j)) 8 (fun j hj => h' (8 + j) (by omega))]
theorem hashN_succ (h s : Nat → UInt8) (k : Nat) (x : Nat → UInt8) (hx : ∀ j, j < 16 → x j = s (16 * k + j)) : prod (fun j => hashN h s k j ^^^ x j) h = hashN h s (k + 1) := by
  show _ = prod (fun j => hashN h s k j ^^^ s (16 * k + j)) h
  exact prod_congr (fun j hj => by rw [hx j hj]) (fun _ _ => rfl)
theorem cut_cut (s : ByteArray) (k : Nat) : (s.extract (16 * k) s.size).extract 16 (s.size - 16 * k) = s.extract (16 * (k + 1)) s.size := by
  rw [ByteArray.extract_extract]
  congr 1
  omega
theorem round_end (w w3 : World) (n m : Nat) (h x : Nat → UInt8) (s : ByteArray) (k : Nat) (y : Nat → UInt8) (hk : 16 * k + 16 ≤ s.size) (hS : SN w w3 n m h (hashN h (sf s) k) x) (hy : y = hashN h (sf s) (k + 1)) :
    (∃ k_1, 16 * k_1 ≤ s.size ∧ Value.string ((s.extract (16 * k) s.size).extract 16 (s.size - 16 * k)) = Value.string (s.extract (16 * k_1) s.size) ∧
      SH w (w3.setRow (n + 1 + 1) (arr 16 (by8 y))) n h (hashN h (sf s) k_1)) ∧
    strLen (Value.string ((s.extract (16 * k) s.size).extract 16 (s.size - 16 * k))) < strLen (Value.string (s.extract (16 * k) s.size)) := by
  subst hy
  rw [cut_cut]
  refine ⟨⟨k + 1, by omega, rfl, ⟨hS.s.r0.setRow_other (by omega), hS.s.r1.setRow_other (by omega), hS.s.r2.setRow, Below.setRow hS.s.b (by omega) _⟩⟩, ?_⟩
  simp only [strLen]
  rw [cut_size _ _ _ (Nat.le_refl _), cut_size _ _ _ (Nat.le_refl _)]
  omega

set_option maxHeartbeats 400000 in
theorem bhash_yes (h : Nat → UInt8) (s : ByteArray) (w : World) (hs : s.size ≤ maxLen) (hn : s.size % 16 = 0) :
    Calls Try.prog 39 #[.agg (arr 16 (by8 h)), .string s] w fun e w' =>
      e = .returned (.tuple #[.agg (arr 16 (by8 (hashN h (sf s) (s.size / 16)))), .bool true]) ∧ Below w.heap.size w w' := by
  unfold maxLen at hs
  have hm : (((s.size : Int) % 16) != 0) = false := by rw [bne_eq_false_iff_eq]; omega
  go_enter Try.func39, Try.ntmps39
  go_wp2
  go_loopw [1] (fun t wr => ∃ k : Nat, 16 * k ≤ s.size ∧ t = .string (s.extract (16 * k) s.size) ∧ SH w wr w.heap.size h (hashN h (sf s) k)) (fun t _ => strLen t)
  case atStart =>
    refine ⟨0, by omega, by simp, ⟨?_, ?_, ?_, ?_⟩⟩
    · exact ((Row.new _ _ _ _ _ rfl).alloc _).alloc _
    · have h := Row.new (w.alloc (.cells (arr 16 (by8 h)) 53)) 16 53 z8 (w.heap.size + 1) (by simp)
      exact h.alloc _
    · exact Row.lit _ _ _ z8 _ _ (by simp) rfl
    · exact ((((Below.refl _ _).alloc (Nat.le_refl _) _).alloc (by simp) _).alloc (by simp; omega) _)
  case round =>
    obtain ⟨k, hk, rfl, hS⟩ := hrel
    by_cases hlt : 16 * k < s.size
    · have hk16 : 16 * k + 16 ≤ s.size := by omega
      have hem : (s.extract (16 * k) s.size).toList.isEmpty = false := by rw [bytes_isEmpty, cut_size _ _ _ (Nat.le_refl _)]; simp; omega
      go_wp2_with fail
      refine (of_yes _ _ ?_).mono ?_
      · rw [cut_size _ _ _ (by rw [cut_size _ _ _ (Nat.le_refl _)]; omega)]
      rintro e w1 ⟨rfl, hb1⟩
      have hS1 := hS.keep hb1
      have hx : ∀ j, j < 16 → sf ((s.extract (16 * k) s.size).extract 0 16) j = sf s (16 * k + j) := by
        intro j hj
        rw [sf_cut _ _ _ _ (by rw [cut_size _ _ _ (Nat.le_refl _)]; omega) (by omega), sf_cut _ _ _ _ (Nat.le_refl _) (by omega), Nat.zero_add]
      have HX : Hid (prod (fun j => hashN h (sf s) k j ^^^ sf ((s.extract (16 * k) s.size).extract 0 16) j) h = hashN h (sf s) (k + 1)) := hashN_succ h (sf s) k _ hx
      clear hx hS hb1
      go_wp2_with fail
      suffices H : ∀ W, SN w W w.heap.size w1.heap.size h (hashN h (sf s) k) (sf ((s.extract (16 * k) s.size).extract 0 16)) → Code.wp Try.prog _ _ _ W from H _ ⟨hS1.alloc _, Row.new _ _ _ _ _ rfl⟩
      intro W hS
      have hmm : w.heap.size + 1 + 1 < w1.heap.size := hS1.r2.lt
      clear hS1
      have r0 := heap_pos hS.s.r0
      have r2 := heap_pos hS.s.r2
      have r3 := heap_pos hS.r
      go_region_with (first
        | (go_at_call 59; refine (bxor_any _ _ _).mono ?_; rintro e w2 ⟨rfl, hb2⟩; have hS := hS.drew.keep hb2; have r0 := heap_pos hS.s.r0; have r2 := heap_pos hS.s.r2)
        | (go_at_call 63; refine (btimes_any _ _ _).mono ?_; rintro e w3 ⟨rfl, hb3⟩; have hS := hS.keep hb3; have r2 := heap_pos hS.s.r2))
      all_goals
        go_wp2
        exact round_end _ _ _ _ _ _ _ _ _ hk16 hS HX
    · have hem : (s.extract (16 * k) s.size).toList.isEmpty = true := by rw [bytes_isEmpty, cut_size _ _ _ (Nat.le_refl _)]; simp; omega
      have r2 := heap_pos hS.r2
      have r1 := heap_pos hS.r1
      go_wp2
      have hk2 : k = s.size / 16 := by omega
      refine bodyPost_ret (v := .tuple #[.agg (arr 16 (by8 (hashN h (sf s) k))), .bool true]) (res40b Try.results39 _ _ (w.heap.size + 1) _ _ rfl rfl hS.r1.setRow) rfl ⟨by rw [hk2], ?_⟩
      exact Below.setRow hS.b (by omega) _

set_option maxHeartbeats 400000 in
theorem chash_key (h s : ByteArray) (w : World) (hh : h.size ≠ 16) :
    Calls Try.prog 19 #[.string h, .string s] w fun e w' => e = .returned (.tuple #[.string ⟨#[]⟩, .int .i64 2]) ∧ Below w.heap.size w w' := by
  go_enter Try.func19, Try.ntmps19
  go_wp2_with fail
  refine (of_no _ _ hh).mono ?_
  rintro e w1 ⟨rfl, hb1⟩
  go_wp2
  go_ret2
  exact ⟨rfl, hb1.alloc hb1.size _⟩

set_option maxHeartbeats 400000 in
theorem chash_size (h s : ByteArray) (w : World) (hh : h.size = 16) (hs : s.size ≤ maxLen) (hn : s.size % 16 ≠ 0) :
    Calls Try.prog 19 #[.string h, .string s] w fun e w' => e = .returned (.tuple #[.string ⟨#[]⟩, .int .i64 5]) ∧ Below w.heap.size w w' := by
  have HH : Hid _ := hh
  have HN : Hid _ := hn
  clear hh hn
  go_enter Try.func19, Try.ntmps19
  go_wp2_with fail
  refine (of_yes _ _ HH).mono ?_
  rintro e w1 ⟨rfl, hb1⟩
  go_wp2_with fail
  refine (bhash_no _ _ _ hs HN).mono ?_
  rintro e w2 ⟨rfl, hb2⟩
  go_wp2
  go_ret2
  exact ⟨rfl, ((hb1.alloc hb1.size _).trans (hb2.mono (by have := hb1.size; simp; omega))).alloc (by have := hb1.size; have := hb2.size; simp at *; omega) _⟩

set_option maxHeartbeats 400000 in
theorem chash_ok (h s : ByteArray) (w : World) (hh : h.size = 16) (hs : s.size ≤ maxLen) (hn : s.size % 16 = 0) :
    Calls Try.prog 19 #[.string h, .string s] w fun e w' => e = .returned (.tuple #[.string (str 16 (hashN (sf h) (sf s) (s.size / 16))), .int .i64 0]) ∧ Below w.heap.size w w' := by
  have HH : Hid _ := hh
  have HN : Hid _ := hn
  clear hh hn
  go_enter Try.func19, Try.ntmps19
  go_wp2_with fail
  refine (of_yes _ _ HH).mono ?_
  rintro e w1 ⟨rfl, hb1⟩
  go_wp2_with fail
  refine (bhash_yes _ _ _ hs HN).mono ?_
  rintro e w2 ⟨rfl, hb2⟩
  go_wp2_with fail
  refine (text_any _ _).mono ?_
  rintro e w3 ⟨rfl, hb3⟩
  go_wp2
  go_ret2
  exact ⟨rfl, (((hb1.alloc hb1.size _).trans (hb2.mono (by have := hb1.size; simp; omega))).alloc (by have := hb1.size; have := hb2.size; simp at *; omega) _).trans (hb3.mono (by have := hb1.size; have := hb2.size; simp at *; omega))⟩
end Go.Proofs.Ytgalgjmhdbncbaa
