import Derived.Test.YtgalgjmhdbncbabGreatZb01
import Derived.Deep.OwnRows
namespace Go.Proofs.YtgalgjmhdbncbabGreat
open Go.RowKit
attribute [local go_sem ↓] Go.wp_at_zero Go.wp_at_succ
attribute [local go_sem ↓] ld40_wrap st40_wrap
attribute [local go_sem] run_ld40 run_st40 ldRes_row stRes_row stRes_z z16_lit blk_new blk_old blk_drew blk_setCell blk_setRow alloc_setRow

def hashN (h s : Nat → UInt8) : Nat → Nat → UInt8
  | 0 => fun _ => 0
  | k + 1 => prod (fun j => hashN h s k j ^^^ s (16 * k + j)) h

def strLen : Value → Nat
  | .string s => s.size
  | _ => 0

set_option maxHeartbeats 400000 in
theorem bhash_no (h : Nat → UInt8) (s : ByteArray) (w : World) (hs : s.size ≤ maxLen) (hn : s.size % 16 ≠ 0) :
    Calls Tryz.prog 83 #[.agg (arr 16 (by8 h)), .string s] w fun e w' =>
      e = .returned (.tuple #[.agg (arr 16 z8), .bool false]) ∧ Below w.heap.size w w' := by
  unfold maxLen at hs
  have hm : (((s.size : Int) % 16) != 0) = true := by rw [bne_iff_ne]; omega
  have R1 : Hid _ := (Row.new (w.alloc (.cells (arr 16 (by8 h)) 141)) 16 141 z8 (w.heap.size + 1) (by simp)).alloc (.cells (arr 16 z8) 141)
  have R2 : Hid _ := Row.new ((w.alloc (.cells (arr 16 (by8 h)) 141)).alloc (.cells (arr 16 z8) 141)) 16 141 z8 (w.heap.size + 1 + 1) (by simp)
  have B1 : Hid _ := ((((Below.refl w.heap.size w).alloc (Nat.le_refl _) (.cells (arr 16 (by8 h)) 141)).alloc (by simp) (.cells (arr 16 z8) 141)).alloc (by simp; omega) (.cells (arr 16 z8) 141))
  go_enter Tryz.func83, Tryz.ntmps83
  go_wp2_with (first
    | (refine ld40 rfl _ rfl _ rfl _ R2 ?_)
    | (refine st40' rfl _ _ rfl _ _ rfl rfl _ R1 ?_; intro w2 hc2 r4))
  refine bodyPost_ret (v := .tuple #[.agg (arr 16 z8), .bool false]) (res40b Tryz.results83 _ _ (w.heap.size + 1) _ _ rfl rfl r4) rfl ⟨rfl, ?_⟩
  exact Below.chg B1 hc2 (by omega)

theorem bytes_isEmpty (t : ByteArray) : t.toList.isEmpty = (t.size == 0) := by
  rw [ByteArray.toList_eq]
  cases t with
  | mk d => cases d with | mk l => cases l <;> rfl
theorem cut_size (s : ByteArray) (i j : Nat) (h : j ≤ s.size) : (s.extract i j).size = j - i := by simp; omega
theorem sf_cut (s : ByteArray) (i j x : Nat) (h : j ≤ s.size) (hx : i + x < j) : sf (s.extract i j) x = sf s (i + x) := by
  simp only [sf]
  rw [show (s.extract i j).data = s.data.extract i j from by simp]
  have h1 : x < (s.data.extract i j).size := by simp; have : s.size = s.data.size := rfl; omega
  have h2 : i + x < s.data.size := by have : s.size = s.data.size := rfl; omega
  have h3 : x < min j s.size - i := by omega
  have h4 : i + x < s.size := h2
  simp [Array.getD, h3, h4]
structure SH (w0 w : World) (n : Nat) (h y : Nat → UInt8) : Prop where
  r0 : Row w n 16 141 (by8 h)
  r1 : Row w (n + 1) 16 141 z8
  r2 : Row w (n + 1 + 1) 16 141 (by8 y)
  b : Below n w0 w

theorem SH.keep {w0 w w1 : World} {n : Nat} {f g : Nat → UInt8} (h : SH w0 w n f g) (hb : Below w.heap.size w w1) : SH w0 w1 n f g :=
  ⟨h.r0.keep hb h.r0.lt, h.r1.keep hb h.r1.lt, h.r2.keep hb h.r2.lt, h.b.trans (hb.mono (Nat.le_of_lt h.r0.lt))⟩
theorem SH.alloc {w0 w : World} {n : Nat} {f g : Nat → UInt8} (h : SH w0 w n f g) (o : Obj) : SH w0 (w.alloc o) n f g :=
  ⟨h.r0.alloc o, h.r1.alloc o, h.r2.alloc o, h.b.alloc (Nat.le_of_lt h.r0.lt) o⟩
structure SN (w0 w : World) (n m : Nat) (h y x : Nat → UInt8) : Prop where
  s : SH w0 w n h y
  r : Row w m 16 141 (by8 x)
theorem SN.drew {w0 w : World} {n m : Nat} {h y x : Nat → UInt8} (a : SN w0 w n m h y x) : SN w0 w.drew n m h y x := ⟨⟨a.s.r0, a.s.r1, a.s.r2, a.s.b.drew⟩, a.r⟩
theorem SN.keep {w0 w w1 : World} {n m : Nat} {h y x : Nat → UInt8} (a : SN w0 w n m h y x) (hb : Below w.heap.size w w1) : SN w0 w1 n m h y x := ⟨a.s.keep hb, a.r.keep hb a.r.lt⟩
theorem pk_congr {f g : Nat → UInt8} : ∀ n, (∀ j, j < n → f j = g j) → pk f n = pk g n
  | 0, _ => rfl
  | n + 1, h => by
    simp only [pk]
    rw [pk_congr n (fun j hj => h j (by omega)), h n (by omega)]
theorem prod_congr {f f' g g' : Nat → UInt8} (h : ∀ j, j < 16 → f j = f' j) (h' : ∀ j, j < 16 → g j = g' j) : prod f g = prod f' g' := by
  unfold prod prodSt
  rw [pk_congr 8 (fun j hj => h j (by omega)), pk_congr 8 (fun j hj => h' j (by omega)), pk_congr (f := fun j => f (8 + j)) (g := fun j => f' (8 + j)) 8 (fun j hj => h (8 + j) (by omega)),
    pk_congr (f := fun j => g (8 + j)) (g := fun j => g' (8 + j)) 8 (fun j hj => h' (8 + j) (by omega))]
theorem hashN_succ (h s : Nat → UInt8) (k : Nat) (x : Nat → UInt8) (hx : ∀ j, j < 16 → x j = s (16 * k + j)) : prod (fun j => hashN h s k j ^^^ x j) h = hashN h s (k + 1) := by
  show _ = prod (fun j => hashN h s k j ^^^ s (16 * k + j)) h
  exact prod_congr (fun j hj => by rw [hx j hj]) (fun _ _ => rfl)
theorem cut_cut (s : ByteArray) (k : Nat) : (s.extract (16 * k) s.size).extract 16 (s.size - 16 * k) = s.extract (16 * (k + 1)) s.size := by
  rw [ByteArray.extract_extract]
  congr 1
  omega
theorem round_end (w w3 : World) (n m : Nat) (h x : Nat → UInt8) (s : ByteArray) (k : Nat) (y : Nat → UInt8) (hk : 16 * k + 16 ≤ s.size) (hS : SN w w3 n m h (hashN h (sf s) k) x) (hy : y = hashN h (sf s) (k + 1)) :
    (∃ k_1, 16 * k_1 ≤ s.size ∧ Value.string ((s.extract (16 * k) s.size).extract 16 (s.size - 16 * k)) = Value.string (s.extract (16 * k_1) s.size) ∧
      SH w (w3.setRow (n + 1 + 1) (arr 16 (by8 y))) n h (hashN h (sf s) k_1)) ∧
    strLen (Value.string ((s.extract (16 * k) s.size).extract 16 (s.size - 16 * k))) < strLen (Value.string (s.extract (16 * k) s.size)) := by
  subst hy
  rw [cut_cut]
  refine ⟨⟨k + 1, by omega, rfl, ⟨hS.s.r0.setRow_other (by omega), hS.s.r1.setRow_other (by omega), hS.s.r2.setRow, Below.setRow hS.s.b (by omega) _⟩⟩, ?_⟩
  simp only [strLen]
  rw [cut_size _ _ _ (Nat.le_refl _), cut_size _ _ _ (Nat.le_refl _)]
  omega

set_option maxHeartbeats 400000 in
theorem bhash_yes (h : Nat → UInt8) (s : ByteArray) (w : World) (hs : s.size ≤ maxLen) (hn : s.size % 16 = 0) :
    Calls Tryz.prog 83 #[.agg (arr 16 (by8 h)), .string s] w fun e w' =>
      e = .returned (.tuple #[.agg (arr 16 (by8 (hashN h (sf s) (s.size / 16)))), .bool true]) ∧ Below w.heap.size w w' := by
  unfold maxLen at hs
  have hm : (((s.size : Int) % 16) != 0) = false := by rw [bne_eq_false_iff_eq]; omega
  go_enter Tryz.func83, Tryz.ntmps83
  go_wp2
  go_loopw [1] (fun t wr => ∃ k : Nat, 16 * k ≤ s.size ∧ t = .string (s.extract (16 * k) s.size) ∧ SH w wr w.heap.size h (hashN h (sf s) k)) (fun t _ => strLen t)
  case atStart =>
    refine ⟨0, by omega, by simp, ⟨?_, ?_, ?_, ?_⟩⟩
    · exact ((Row.new _ _ _ _ _ rfl).alloc _).alloc _
    · have h := Row.new (w.alloc (.cells (arr 16 (by8 h)) 141)) 16 141 z8 (w.heap.size + 1) (by simp)
      exact h.alloc _
    · exact Row.lit _ _ _ z8 _ _ (by simp) rfl
    · exact ((((Below.refl _ _).alloc (Nat.le_refl _) _).alloc (by simp) _).alloc (by simp; omega) _)
  case round =>
    obtain ⟨k, hk, rfl, hS⟩ := hrel
    by_cases hlt : 16 * k < s.size
    · have hk16 : 16 * k + 16 ≤ s.size := by omega
      have hem : (s.extract (16 * k) s.size).toList.isEmpty = false := by rw [bytes_isEmpty, cut_size _ _ _ (Nat.le_refl _)]; simp; omega
      go_wp2_with fail
      refine (of_yes _ _ ?_).mono ?_
      · rw [cut_size _ _ _ (by rw [cut_size _ _ _ (Nat.le_refl _)]; omega)]
      rintro e w1 ⟨rfl, hb1⟩
      have hS1 := hS.keep hb1
      have hx : ∀ j, j < 16 → sf ((s.extract (16 * k) s.size).extract 0 16) j = sf s (16 * k + j) := by
        intro j hj
        rw [sf_cut _ _ _ _ (by rw [cut_size _ _ _ (Nat.le_refl _)]; omega) (by omega), sf_cut _ _ _ _ (Nat.le_refl _) (by omega), Nat.zero_add]
      have HX : Hid (prod (fun j => hashN h (sf s) k j ^^^ sf ((s.extract (16 * k) s.size).extract 0 16) j) h = hashN h (sf s) (k + 1)) := hashN_succ h (sf s) k _ hx
      clear hx hS hb1
      go_wp2_with fail
      suffices H : ∀ W, SN w W w.heap.size w1.heap.size h (hashN h (sf s) k) (sf ((s.extract (16 * k) s.size).extract 0 16)) → Code.wp Tryz.prog _ _ _ W from H _ ⟨hS1.alloc _, Row.new _ _ _ _ _ rfl⟩
      intro W hS
      have hmm : w.heap.size + 1 + 1 < w1.heap.size := hS1.r2.lt
      clear hS1
      have r0 := heap_pos hS.s.r0
      have r2 := heap_pos hS.s.r2
      have r3 := heap_pos hS.r
      go_region_with (first
        | (go_at_call 109; refine (bxor_any _ _ _).mono ?_; rintro e w2 ⟨rfl, hb2⟩; have hS := hS.drew.keep hb2; have r0 := heap_pos hS.s.r0; have r2 := heap_pos hS.s.r2)
        | (go_at_call 116; refine (btimes_any _ _ _).mono ?_; rintro e w3 ⟨rfl, hb3⟩; have hS := hS.keep hb3; have r2 := heap_pos hS.s.r2))
      all_goals
        go_wp2
        exact round_end _ _ _ _ _ _ _ _ _ hk16 hS HX
    · have hem : (s.extract (16 * k) s.size).toList.isEmpty = true := by rw [bytes_isEmpty, cut_size _ _ _ (Nat.le_refl _)]; simp; omega
      have r2 := heap_pos hS.r2
      have r1 := heap_pos hS.r1
      go_wp2
      have hk2 : k = s.size / 16 := by omega
      refine bodyPost_ret (v := .tuple #[.agg (arr 16 (by8 (hashN h (sf s) k))), .bool true]) (res40b Tryz.results83 _ _ (w.heap.size + 1) _ _ rfl rfl hS.r1.setRow) rfl ⟨by rw [hk2], ?_⟩
      exact Below.setRow hS.b (by omega) _

set_option maxHeartbeats 400000 in
theorem chash_key (h s : ByteArray) (w : World) (hh : h.size ≠ 16) :
    Calls Tryz.prog 39 #[.string h, .string s] w fun e w' => e = .returned (.tuple #[.string ⟨#[]⟩, .int .i64 2]) ∧ Below w.heap.size w w' := by
  go_enter Tryz.func39, Tryz.ntmps39
  go_wp2_with fail
  refine (of_no _ _ hh).mono ?_
  rintro e w1 ⟨rfl, hb1⟩
  go_wp2
  go_ret2
  exact ⟨rfl, hb1.alloc hb1.size _⟩

set_option maxHeartbeats 400000 in
theorem chash_size (h s : ByteArray) (w : World) (hh : h.size = 16) (hs : s.size ≤ maxLen) (hn : s.size % 16 ≠ 0) :
    Calls Tryz.prog 39 #[.string h, .string s] w fun e w' => e = .returned (.tuple #[.string ⟨#[]⟩, .int .i64 5]) ∧ Below w.heap.size w w' := by
  have HH : Hid _ := hh
  have HN : Hid _ := hn
  clear hh hn
  go_enter Tryz.func39, Tryz.ntmps39
  go_wp2_with fail
  refine (of_yes _ _ HH).mono ?_
  rintro e w1 ⟨rfl, hb1⟩
  go_wp2_with fail
  refine (bhash_no _ _ _ hs HN).mono ?_
  rintro e w2 ⟨rfl, hb2⟩
  go_wp2
  go_ret2
  exact ⟨rfl, ((hb1.alloc hb1.size _).trans (hb2.mono (by have := hb1.size; simp; omega))).alloc (by have := hb1.size; have := hb2.size; simp at *; omega) _⟩

set_option maxHeartbeats 400000 in
theorem chash_ok (h s : ByteArray) (w : World) (hh : h.size = 16) (hs : s.size ≤ maxLen) (hn : s.size % 16 = 0) :
    Calls Tryz.prog 39 #[.string h, .string s] w fun e w' => e = .returned (.tuple #[.string (str 16 (hashN (sf h) (sf s) (s.size / 16))), .int .i64 0]) ∧ Below w.heap.size w w' := by
  have HH : Hid _ := hh
  have HN : Hid _ := hn
  clear hh hn
  go_enter Tryz.func39, Tryz.ntmps39
  go_wp2_with fail
  refine (of_yes _ _ HH).mono ?_
  rintro e w1 ⟨rfl, hb1⟩
  go_wp2_with fail
  refine (bhash_yes _ _ _ hs HN).mono ?_
  rintro e w2 ⟨rfl, hb2⟩
  go_wp2_with fail
  refine (text_any _ _).mono ?_
  rintro e w3 ⟨rfl, hb3⟩
  go_wp2
  go_ret2
  exact ⟨rfl, (((hb1.alloc hb1.size _).trans (hb2.mono (by have := hb1.size; simp; omega))).alloc (by have := hb1.size; have := hb2.size; simp at *; omega) _).trans (hb3.mono (by have := hb1.size; have := hb2.size; simp at *; omega))⟩
end Go.Proofs.YtgalgjmhdbncbabGreat
namespace Go.Proofs.YtgalgjmhdbncbabGreat
open Go.RowKit

def LdT (t : TypeId) (v : Value) : Sem Value := Instr.loadAt t v
theorem ldw40 (v : Value) : Instr.loadAt 141 v = LdT 141 v := rfl
theorem ldw50 (v : Value) : Instr.loadAt 172 v = LdT 172 v := rfl
theorem ldw60 (v : Value) : Instr.loadAt 197 v = LdT 197 v := rfl
theorem ldw63 (v : Value) : Instr.loadAt 200 v = LdT 200 v := rfl
theorem ldw52 (v : Value) : Instr.loadAt 174 v = LdT 174 v := rfl
def ldO (P : Program) (t : TypeId) (g off : Nat) (w : World) : Result Value := Sem.run P (Instr.loadAt t (.pointer (some ⟨g, off, none⟩))) w
def ldN (o : Option Obj) (off n : Nat) (w : World) (r : Result Value) : Result Value :=
  match o with
  | some (.cells cs _ fr) => if fr = (0, 0) ∧ off + n ≤ cs.size then .ok (.agg (cs.extract off (off + n))) w else r
  | _ => r
theorem run_ldT (t n : Nat) (d : TypeDesc) (hu : Tryz.prog.underlying t = some d) (hd : d.isRow = true) (hi : (Tryz.prog.info? t).map (·.size) = some n) (g off : Nat) (w : World) :
    Sem.run Tryz.prog (LdT t (.pointer (some ⟨g, off, none⟩))) w = ldN (blk w g) off n w (ldO Tryz.prog t g off w) := by
  unfold ldN blk
  split
  · rename_i cs t' fr h
    split
    · rename_i hc
      obtain ⟨rfl, h1⟩ := hc
      have hr := World.rangeAt_of_block h off n
      have := run_loadAt_mid (P := Tryz.prog) w g off t _ d hr hu hd (by rw [hi]; simp; omega)
      rw [Array.toArray_toList] at this
      exact this
    · rfl
  · rfl
theorem run_ldT40 (g off : Nat) (w : World) : Sem.run Tryz.prog (LdT 141 (.pointer (some ⟨g, off, none⟩))) w = ldN (blk w g) off 16 w (ldO Tryz.prog 141 g off w) := run_ldT 141 16 _ Tryz.underlying141 rfl (by kernel_rfl) g off w
theorem run_ldT50 (g off : Nat) (w : World) : Sem.run Tryz.prog (LdT 172 (.pointer (some ⟨g, off, none⟩))) w = ldN (blk w g) off 256 w (ldO Tryz.prog 172 g off w) := run_ldT 172 256 _ Tryz.underlying172 rfl (by kernel_rfl) g off w
theorem run_ldT60 (g off : Nat) (w : World) : Sem.run Tryz.prog (LdT 197 (.pointer (some ⟨g, off, none⟩))) w = ldN (blk w g) off 255 w (ldO Tryz.prog 197 g off w) := run_ldT 197 255 _ Tryz.underlying197 rfl (by kernel_rfl) g off w
theorem run_ldT63 (g off : Nat) (w : World) : Sem.run Tryz.prog (LdT 200 (.pointer (some ⟨g, off, none⟩))) w = ldN (blk w g) off 4 w (ldO Tryz.prog 200 g off w) := run_ldT 200 4 _ Tryz.underlying200 rfl (by kernel_rfl) g off w
theorem run_ldT52 (g off : Nat) (w : World) : Sem.run Tryz.prog (LdT 174 (.pointer (some ⟨g, off, none⟩))) w = ldN (blk w g) off 240 w (ldO Tryz.prog 174 g off w) := run_ldT 174 240 _ Tryz.underlying174 rfl (by kernel_rfl) g off w
theorem arr_cut (m : Nat) (V : Nat → Value) (off n : Nat) (h : off + n ≤ m) : (arr m V).extract off (off + n) = arr n fun j => V (off + j) := by
  apply Array.ext_getElem?
  intro i
  rw [Array.getElem?_extract]
  by_cases hi : i < n
  · rw [arr_get _ _ _ hi, if_pos (by rw [arr_size]; omega), arr_get _ _ _ (by omega)]
  · rw [if_neg (by rw [arr_size]; omega)]
    simp [arr, hi]
theorem ldN_mid (m : Nat) (V : Nat → Value) (t : TypeId) (off n : Nat) (w : World) (r : Result Value) (h : off + n ≤ m) : ldN (some (.cells (arr m V) t (0, 0))) off n w r = .ok (.agg (arr n fun j => V (off + j))) w := by
  unfold ldN
  simp only [arr_size, h, and_self, if_true, arr_cut m V off n h]
theorem ldN_row (m : Nat) (V : Nat → Value) (t : TypeId) (w : World) (r : Result Value) : ldN (some (.cells (arr m V) t (0, 0))) 0 m w r = .ok (.agg (arr m V)) w := by
  rw [ldN_mid _ _ _ _ _ _ _ (by omega)]
  simp
theorem ldN_key (rr : Nat) (ks bx : Nat → UInt8) (i : Nat) (w : World) (r : Result Value) (h : i < 15) : ldN (some (.cells (arr 497 (ciph rr ks bx)) 177 (0, 0))) (1 + i * 16) 16 w r = .ok (.agg (arr 16 (by8 fun j => ks (16 * i + j)))) w := by
  rw [ldN_mid _ _ _ _ _ _ _ (by omega)]
  congr 2
  apply arr_congr
  intro j hj
  unfold ciph
  rw [if_neg (by omega), if_pos (by omega)]
  unfold by8
  rw [show 1 + i * 16 + j - 1 = 16 * i + j by omega]

def StT (t : TypeId) (p v : Value) : Sem Unit := Instr.storeAt t p v
theorem stw40 (p v : Value) : Instr.storeAt 141 p v = StT 141 p v := rfl
theorem stw50 (p v : Value) : Instr.storeAt 172 p v = StT 172 p v := rfl
theorem stw63 (p v : Value) : Instr.storeAt 200 p v = StT 200 p v := rfl
theorem stw52 (p v : Value) : Instr.storeAt 174 p v = StT 174 p v := rfl
def stO (P : Program) (t : TypeId) (v : Value) (g : Nat) (w : World) : Result Unit := Sem.run P (Instr.storeAt t (.pointer (some ⟨g, 0, none⟩)) v) w
def stN (o : Option Obj) (n : Nat) (v : Value) (g : Nat) (w : World) (r : Result Unit) : Result Unit :=
  match o, v with
  | some (.cells cs _ fr), .agg cs' => if fr = (0, 0) ∧ cs.size = n ∧ cs'.size = n ∧ cs'.all (·.oneCell') = true then .ok () (w.setRow g cs') else r
  | _, _ => r
theorem run_stT (t n : Nat) (hi : (Tryz.prog.info? t).map (·.size) = some n) (g : Nat) (v : Value) (w : World) :
    Sem.run Tryz.prog (StT t (.pointer (some ⟨g, 0, none⟩)) v) w = stN (blk w g) n v g w (stO Tryz.prog t v g w) := by
  unfold stN blk
  split
  · rename_i cs t' fr cs' h
    split
    · rename_i hc
      obtain ⟨rfl, h1, h2, h3⟩ := hc
      show Sem.run Tryz.prog (Instr.storeAt t (.pointer (some ⟨g, 0, none⟩)) (.agg cs')) w = _
      simp only [Instr.storeAt, Instr.sureAddr, Sem.run_bind, Sem.run_pure, Result.andThen_ok]
      exact run_storeVar_row w g t' t _ _ h (by rw [h2]; exact hi) (by rw [h1, h2]) h3
    · rfl
  · rfl
theorem run_stT40 (g : Nat) (v : Value) (w : World) : Sem.run Tryz.prog (StT 141 (.pointer (some ⟨g, 0, none⟩)) v) w = stN (blk w g) 16 v g w (stO Tryz.prog 141 v g w) := run_stT 141 16 (by kernel_rfl) g v w
theorem run_stT50 (g : Nat) (v : Value) (w : World) : Sem.run Tryz.prog (StT 172 (.pointer (some ⟨g, 0, none⟩)) v) w = stN (blk w g) 256 v g w (stO Tryz.prog 172 v g w) := run_stT 172 256 (by kernel_rfl) g v w
theorem run_stT63 (g : Nat) (v : Value) (w : World) : Sem.run Tryz.prog (StT 200 (.pointer (some ⟨g, 0, none⟩)) v) w = stN (blk w g) 4 v g w (stO Tryz.prog 200 v g w) := run_stT 200 4 (by kernel_rfl) g v w
theorem run_stT52 (g : Nat) (v : Value) (w : World) : Sem.run Tryz.prog (StT 174 (.pointer (some ⟨g, 0, none⟩)) v) w = stN (blk w g) 240 v g w (stO Tryz.prog 174 v g w) := run_stT 174 240 (by kernel_rfl) g v w
theorem stN_row (n : Nat) (V : Nat → Value) (t : TypeId) (f : Nat → UInt8) (g : Nat) (w : World) (r : Result Unit) : stN (some (.cells (arr n V) t (0, 0))) n (.agg (arr n (by8 f))) g w r = .ok () (w.setRow g (arr n (by8 f))) := by
  have hc : ((0, 0) : Nat × Nat) = (0, 0) ∧ (arr n V).size = n ∧ (arr n (by8 f)).size = n ∧ (arr n (by8 f)).all (·.oneCell') = true := ⟨rfl, arr_size _ _, arr_size _ _, one8 n f⟩
  unfold stN
  exact if_pos hc
theorem stN_z (n : Nat) (V : Nat → Value) (t : TypeId) (g : Nat) (w : World) (r : Result Unit) : stN (some (.cells (arr n V) t (0, 0))) n (.agg (arr n z8)) g w r = .ok () (w.setRow g (arr n z8)) := stN_row n V t _ g w r
theorem res50 {fn : Func} {p : Tmp} (h : fn.results = #[.cell p 172]) (tmps : Array Value) (w : World) (g : Nat) (V : Nat → Value)
    (hp : tmps.getD p undef = .pointer (some ⟨g, 0, none⟩)) (t' : TypeId) (hg : Row w g 256 t' V) : (results fn tmps).run Tryz.prog w = .ok (.agg (arr 256 V)) w :=
  results_cell_row h tmps w g t' _ (0, 0) _ hp hg Tryz.underlying172 rfl (by rw [arr_size]; kernel_rfl)
theorem res63 {fn : Func} {p : Tmp} (h : fn.results = #[.cell p 200]) (tmps : Array Value) (w : World) (g : Nat) (V : Nat → Value)
    (hp : tmps.getD p undef = .pointer (some ⟨g, 0, none⟩)) (t' : TypeId) (hg : Row w g 4 t' V) : (results fn tmps).run Tryz.prog w = .ok (.agg (arr 4 V)) w :=
  results_cell_row h tmps w g t' _ (0, 0) _ hp hg Tryz.underlying200 rfl (by rw [arr_size]; kernel_rfl)
theorem res52 {fn : Func} {p : Tmp} (h : fn.results = #[.cell p 174]) (tmps : Array Value) (w : World) (g : Nat) (V : Nat → Value)
    (hp : tmps.getD p undef = .pointer (some ⟨g, 0, none⟩)) (t' : TypeId) (hg : Row w g 240 t' V) : (results fn tmps).run Tryz.prog w = .ok (.agg (arr 240 V)) w :=
  results_cell_row h tmps w g t' _ (0, 0) _ hp hg Tryz.underlying174 rfl (by rw [arr_size]; kernel_rfl)

def dbl (b : UInt8) : UInt8 := (b <<< 1) ^^^ ((b >>> 7) * 27)
theorem dbl_int : ∀ n : Fin 256, bits .xor .u8 ((n.val : Int) * 2 % 256) ((n.val : Int) / 128 * 27 % 256) = ((dbl (UInt8.ofNat n.val)).toNat : Int) := by decide +kernel
set_option maxHeartbeats 400000 in
theorem dbl_any (b : UInt8) (w : World) : Calls Tryz.prog 127 #[.int .u8 b.toNat] w fun e w' => e = .returned (.int .u8 (dbl b).toNat) ∧ w' = w := by
  have h := dbl_int ⟨b.toNat, b.toNat_lt⟩
  simp only [UInt8.ofNat_toNat] at h
  have HH : Hid _ := h
  clear h
  go_enter Tryz.func127, Tryz.ntmps127
  go_wp2
  go_ret
  exact ⟨by rw [← HH.out]; rfl, rfl⟩
def rotl (b : UInt8) (k : Nat) : UInt8 := UInt8.ofNat (b.toNat * 2 ^ k % 256 + b.toNat * 2 ^ k / 256)
set_option maxHeartbeats 400000 in
theorem rot_any (b : UInt8) (k : Nat) (hk : k < 5) (w : World) : Calls Tryz.prog 141 #[.int .u8 b.toNat, .int .i64 k] w fun e w' => e = .returned (.int .u8 (rotl b k).toNat) ∧ w' = w := by
  have e : bits .and .u64 (k : Int) 7 = (k : Int) := by
    have : ∀ n : Fin 5, bits .and .u64 (n.val : Int) 7 = (n.val : Int) := by decide +kernel
    exact this ⟨k, hk⟩
  have h : bits .or .u8 ((b.toNat : Int) * 2 ^ k % 256) ((b.toNat : Int) / 2 ^ (8 - k)) = ((rotl b k).toNat : Int) := by
    have : ∀ k : Fin 5, ∀ n : Fin 256, bits .or .u8 ((n.val : Int) * 2 ^ k.val % 256) ((n.val : Int) / 2 ^ (8 - k.val)) = ((rotl (UInt8.ofNat n.val) k.val).toNat : Int) := by decide +kernel
    have h := this ⟨k, hk⟩ ⟨b.toNat, b.toNat_lt⟩
    simp only [UInt8.ofNat_toNat] at h
    exact h
  have HH : Hid _ := h
  clear h
  go_enter Tryz.func141, Tryz.ntmps141
  go_wp2
  go_ret
  exact ⟨by rw [← HH.out]; rfl, rfl⟩
def spr (b : UInt8) : Nat → UInt8
  | 0 => 99
  | k + 1 => spr b k ^^^ rotl b k
theorem ret_u8 {a b : Int} (h : a = b) : Ending.returned (.int .u8 a) = .returned (.int .u8 b) := by rw [h]
set_option maxHeartbeats 400000 in
theorem spread_any (b : UInt8) (w : World) : Calls Tryz.prog 128 #[.int .u8 b.toNat] w fun e w' => e = .returned (.int .u8 (spr b 5).toNat) ∧ w' = w := by
  go_enter Tryz.func128, Tryz.ntmps128
  go_wp2
  go_loop [3, 5] (fun s i => ∃ k : Nat, k ≤ 5 ∧ i = .int .i64 k ∧ s = .int .u8 (spr b k).toNat) (fun _ i => 5 - (intOf i).toNat)
  case atStart => exact ⟨0, by omega, rfl, rfl⟩
  case round =>
    obtain ⟨k, hk, rfl, rfl⟩ := hrel
    by_cases hlt : k < 5
    · go_wp2_with (go_at_call 141; refine (rot_any b k hlt _).mono ?_; rintro e w1 ⟨rfl, rfl⟩)
      go_round
      case rel => exact ⟨k + 1, by omega, by go_num, by rw [u8_xor_b]; rfl⟩
      case measure => simp [intOf]; omega
    · have h5 : k = 5 := by omega
      subst h5
      go_wp2
      go_ret
      exact ⟨rfl, rfl⟩
theorem spread_0 (w : World) : Calls Tryz.prog 128 #[.int .u8 0] w fun e w' => e = .returned (.int .u8 (spr 0 5).toNat) ∧ w' = w := spread_any 0 w
end Go.Proofs.YtgalgjmhdbncbabGreat
namespace Go.Proofs.YtgalgjmhdbncbabGreat
open Go.RowKit

def zs (n : Nat) : ByteArray := str n fun _ => 0
theorem info5 : (Tryz.prog.info? 5).map (fun i => (i.zero, i.size, i.bytes)) = some (some (.int .u8 0), 1, 1) := by kernel_rfl
theorem made8 (n : Nat) : madeCells #[Value.int .u8 0] n = arr n z8 := by
  apply Array.ext_getElem?
  intro i
  by_cases h : i < n
  · rw [arr_get _ _ _ h]; simp [madeCells, h, Nat.mod_one, z8, by8]
  · simp [madeCells, arr, h]
theorem mk8 (n : Nat) (h : n ≤ 281474976710656) (w : World) : (Instr.makeSlice 134 (.int .i64 (n : Int)) (.int .i64 (n : Int))).run Tryz.prog w = .ok (.slice (some ⟨w.heap.size, 0, none⟩) n n) (w.alloc (.cells (arr n z8) 5)) := by
  have := run_make_row' (P := Tryz.prog) 134 5 (.int .u8 0) 1 Tryz.underlying134 info5 rfl .i64 .i64 n (by omega) (by omega) w
  rw [made8] at this
  exact this
theorem convZ (n : Nat) (w : World) : (convert 134 9 (.slice (some ⟨w.heap.size, 0, none⟩) n n)).run Tryz.prog (w.alloc (.cells (arr n z8) 5)) = .ok (.string (zs n)) (w.alloc (.cells (arr n z8) 5)) :=
  conv8 _ _ n n 5 (fun _ => 0) n (Row.new _ _ _ _ _ rfl) (Nat.le_refl _)

def Cv8 (v : Value) : Sem Value := convert 134 9 v
theorem cv_wrap (v : Value) : convert 134 9 v = Cv8 v := rfl
def cvOrig (P : Program) (g n c : Nat) (w : World) : Result Value := Sem.run P (convert 134 9 (.slice (some ⟨g, 0, none⟩) n c)) w
def isBytes (cs : Array Value) (n : Nat) : Bool := cs.size = n && cs.all fun | .int .u8 x => decide (0 ≤ x ∧ x < 256) | _ => false
def cvRes (o : Option Obj) (n : Nat) (w : World) (r : Result Value) : Result Value :=
  match o with
  | some (.cells cs _ fr) => if fr = (0, 0) ∧ isBytes cs n = true then .ok (.string (str n fun j => match cs[j]? with | some (.int .u8 x) => UInt8.ofNat x.toNat | _ => 0)) w else r
  | _ => r
theorem isBytes_arr (n : Nat) (cs : Array Value) (h : isBytes cs n = true) : cs = arr n (by8 fun j => match cs[j]? with | some (.int .u8 x) => UInt8.ofNat x.toNat | _ => 0) := by
  simp only [isBytes, Bool.and_eq_true, decide_eq_true_eq] at h
  obtain ⟨h1, h2⟩ := h
  apply Array.ext_getElem?
  intro i
  by_cases hi : i < n
  · rw [arr_get _ _ _ hi]
    have hi' : i < cs.size := by omega
    have h3 := (Array.all_eq_true.1 h2) i hi'
    rw [Array.getElem?_eq_getElem hi']
    simp only [by8, Array.getElem?_eq_getElem hi']
    revert h3
    generalize cs[i] = v
    intro h3
    split at h3
    · simp only [decide_eq_true_eq] at h3
      rename_i x
      have : ((UInt8.ofNat x.toNat).toNat : Int) = x := by
        rw [UInt8.toNat_ofNat']; omega
      rw [this]
    · cases h3
  · simp [arr, hi]; omega
theorem run_cv (g n c : Nat) (w : World) : Sem.run Tryz.prog (Cv8 (.slice (some ⟨g, 0, none⟩) n c)) w = cvRes (blk w g) n w (cvOrig Tryz.prog g n c w) := by
  unfold cvRes blk
  split
  · rename_i cs t fr h
    split
    · rename_i hc
      obtain ⟨rfl, hb⟩ := hc
      have e := isBytes_arr n cs hb
      have hr : Row w g n t (by8 fun j => match cs[j]? with | some (.int .u8 x) => UInt8.ofNat x.toNat | _ => 0) := by
        unfold Row; rw [← e]; exact h
      exact conv8 w g n c t _ n hr (Nat.le_refl _)
    · rfl
  · rfl
theorem cvRes_row (n : Nat) (t : TypeId) (f : Nat → UInt8) (w : World) (r : Result Value) : cvRes (some (.cells (arr n (by8 f)) t (0, 0))) n w r = .ok (.string (str n f)) w := by
  have hb : isBytes (arr n (by8 f)) n = true := by
    unfold isBytes
    rw [Bool.and_eq_true]
    refine ⟨by simp [arr_size], ?_⟩
    rw [Array.all_eq_true]
    intro i hi
    have hi' : i < n := by simpa [arr_size] using hi
    have : (arr n (by8 f))[i] = by8 f i := by
      have := arr_get n (by8 f) i hi'
      rw [Array.getElem?_eq_getElem hi] at this
      exact Option.some.inj this
    rw [this]
    have := (f i).toNat_lt
    simp [by8]
    omega
  unfold cvRes
  simp only [hb, and_self, if_true]
  congr 2
  apply str_congr
  intro j hj
  rw [arr_get _ _ _ hj]
  simp [by8]
theorem cvRes_z (n : Nat) (t : TypeId) (w : World) (r : Result Value) : cvRes (some (.cells (arr n z8) t (0, 0))) n w r = .ok (.string (zs n)) w := cvRes_row n t _ w r
theorem pick_neg (c : Int) (n : Nat) (hn : 0 < n) (hc : c < 0) : ∃ r : Nat, r < n ∧ -((c + 1).tmod n) = (r : Int) := by
  rw [← Int.neg_tmod, Int.tmod_eq_emod_of_nonneg (by omega)]
  have h1 := Int.emod_nonneg (-(c + 1)) (b := (n : Int)) (by omega)
  have h2 := Int.emod_lt_of_pos (-(c + 1)) (b := (n : Int)) (by omega)
  exact ⟨(-(c + 1) % (n : Int)).toNat, by omega, by omega⟩
theorem pick_pos (c : Int) (n : Nat) (hn : 0 < n) : ∃ r : Nat, r < n ∧ c % (n : Int) = (r : Int) := by
  have h1 := Int.emod_nonneg c (b := (n : Int)) (by omega)
  have h2 := Int.emod_lt_of_pos c (b := (n : Int)) (by omega)
  exact ⟨(c % (n : Int)).toNat, by omega, by omega⟩
theorem bytes_ext {a b : ByteArray} (hs : a.size = b.size) (h : ∀ j, j < a.size → sf a j = sf b j) : a = b := by
  rw [← str_sf a a.size rfl, ← str_sf b a.size hs.symm]
  exact str_congr h
theorem sf_append (a b : ByteArray) (j : Nat) : sf (a ++ b) j = if j < a.size then sf a j else sf b (j - a.size) := by
  have : (a ++ b).data = a.data ++ b.data := by simp
  simp only [sf, this]
  by_cases h : j < a.size
  · simp [Array.getElem?_append, h]
  · simp [Array.getElem?_append, h]
theorem sf_past (a : ByteArray) (j : Nat) (h : a.size ≤ j) : sf a j = 0 := by
  have h' : a.data.size ≤ j := h
  simp [sf, Array.getElem?_eq_none h']
theorem sf_zs (n j : Nat) : sf (zs n) j = 0 := by
  by_cases h : j < n
  · exact sf_str _ _ _ h
  · exact sf_past _ _ (by rw [zs, str_size]; omega)
theorem just_short (s : ByteArray) (n : Nat) (h : s.size ≤ n) : s ++ zs (n - s.size) = str n (sf s) := by
  apply bytes_ext
  · rw [str_size, ByteArray.size_append, zs, str_size]; omega
  · intro j hj
    rw [ByteArray.size_append, zs, str_size] at hj
    rw [sf_append, sf_str _ _ _ (by omega)]
    split
    · rfl
    · rw [sf_zs, sf_past _ _ (by omega)]
theorem just_long (s : ByteArray) (n : Nat) (h : n < s.size) : s.extract 0 n ++ zs 0 = str n (sf s) := by
  apply bytes_ext
  · rw [str_size, ByteArray.size_append, zs, str_size, cut_size _ _ _ (by omega)]; omega
  · intro j hj
    rw [ByteArray.size_append, zs, str_size, cut_size _ _ _ (by omega)] at hj
    rw [sf_append, sf_str _ _ _ (by omega), cut_size _ _ _ (by omega), if_pos (by omega), sf_cut _ _ _ _ (by omega) (by omega), Nat.zero_add]

theorem zs_size (n : Nat) : (zs n).size = n := str_size _ _
theorem str_get (n : Nat) (f : Nat → UInt8) (k : Nat) (h : k < (str n f).size) : (str n f)[k] = f k := by
  show (str n f).data[k]'h = f k
  simp [str]
end Go.Proofs.YtgalgjmhdbncbabGreat
namespace Go.Proofs.YtgalgjmhdbncbabGreat

def numF (v n : Nat) (j : Nat) : UInt8 := UInt8.ofNat (v / 256 ^ (n - 1 - j))
def numT (v n : Nat) : ByteArray := str n (numF v n)
def up16 (n : Nat) : Nat := (n + 15) / 16 * 16
def padT (s : ByteArray) : ByteArray := str (up16 s.size) (sf s)
def valF (f : Nat → UInt8) (at' : Nat) : Nat → Nat
  | 0 => 0
  | n + 1 => valF f at' n * 256 + (f (at' + n)).toNat
theorem up16_le (n : Nat) : n ≤ up16 n := by unfold up16; omega
theorem up16_mod (n : Nat) : up16 n % 16 = 0 := by unfold up16; omega
theorem up16_up (n : Nat) : up16 n < n + 16 := by unfold up16; omega
theorem padT_size (s : ByteArray) : (padT s).size = up16 s.size := str_size _ _
theorem numT_size (v n : Nat) : (numT v n).size = n := str_size _ _
end Go.Proofs.YtgalgjmhdbncbabGreat
