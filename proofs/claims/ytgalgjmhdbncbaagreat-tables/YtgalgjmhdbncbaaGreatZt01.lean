import Derived.Test.YtgalgjmhdbncbaaGreatZt00
import Derived.Deep.OwnRows
namespace Go.Proofs.YtgalgjmhdbncbaaGreat
open Go.RowKit
attribute [local go_sem ↓] Go.wp_at_zero Go.wp_at_succ
attribute [local go_sem ↓] ld40_wrap st40_wrap
attribute [local go_sem] run_ld40 run_st40 ldRes_row stRes_row stRes_z z16_lit blk_new blk_old blk_drew blk_setCell blk_setRow alloc_setRow

def hashN (h s : Nat → UInt8) : Nat → Nat → UInt8
  | 0 => fun _ => 0
  | k + 1 => prod (fun j => hashN h s k j ^^^ s (16 * k + j)) h

def strLen : Value → Nat
  | .string s => s.size
  | _ => 0

set_option maxHeartbeats 400000 in
theorem bhash_no (h : Nat → UInt8) (s : ByteArray) (w : World) (hs : s.size ≤ maxLen) (hn : s.size % 16 ≠ 0) :
    Calls Tryz.prog 124 #[.agg (arr 16 (by8 h)), .string s] w fun e w' =>
      e = .returned (.tuple #[.agg (arr 16 z8), .bool false]) ∧ Below w.heap.size w w' := by
  unfold maxLen at hs
  have hm : (((s.size : Int) % 16) != 0) = true := by rw [bne_iff_ne]; omega
  have R1 : Hid _ := (Row.new (w.alloc (.cells (arr 16 (by8 h)) 145)) 16 145 z8 (w.heap.size + 1) (by simp)).alloc (.cells (arr 16 z8) 145)
  have R2 : Hid _ := Row.new ((w.alloc (.cells (arr 16 (by8 h)) 145)).alloc (.cells (arr 16 z8) 145)) 16 145 z8 (w.heap.size + 1 + 1) (by simp)
  have B1 : Hid _ := ((((Below.refl w.heap.size w).alloc (Nat.le_refl _) (.cells (arr 16 (by8 h)) 145)).alloc (by simp) (.cells (arr 16 z8) 145)).alloc (by simp; omega) (.cells (arr 16 z8) 145))
  go_enter Tryz.func124, Tryz.ntmps124
  go_wp2_with (first
    | (refine ld40 rfl _ rfl _ rfl _ R2 ?_)
    | (refine st40' rfl _ _ rfl _ _ rfl rfl _ R1 ?_; intro w2 hc2 r4))
  refine bodyPost_ret (v := .tuple #[.agg (arr 16 z8), .bool false]) (res40b Tryz.results124 _ _ (w.heap.size + 1) _ _ rfl rfl r4) rfl ⟨rfl, ?_⟩
  exact Below.chg B1 hc2 (by omega)

theorem bytes_isEmpty (t : ByteArray) : t.toList.isEmpty = (t.size == 0) := by
  rw [ByteArray.toList_eq]
  cases t with
  | mk d => cases d with | mk l => cases l <;> rfl
theorem cut_size (s : ByteArray) (i j : Nat) (h : j ≤ s.size) : (s.extract i j).size = j - i := by simp; omega
theorem sf_cut (s : ByteArray) (i j x : Nat) (h : j ≤ s.size) (hx : i + x < j) : sf (s.extract i j) x = sf s (i + x) := by
  simp only [sf]
  rw [show (s.extract i j).data = s.data.extract i j from by simp]
  have h1 : x < (s.data.extract i j).size := by simp; have : s.size = s.data.size := rfl; omega
  have h2 : i + x < s.data.size := by have : s.size = s.data.size := rfl; omega
  have h3 : x < min j s.size - i := by omega
  have h4 : i + x < s.size := h2
  simp [Array.getD, h3, h4]
structure SH (w0 w : World) (n : Nat) (h y : Nat → UInt8) : Prop where
  r0 : Row w n 16 145 (by8 h)
  r1 : Row w (n + 1) 16 145 z8
  r2 : Row w (n + 1 + 1) 16 145 (by8 y)
  b : Below n w0 w

theorem SH.keep {w0 w w1 : World} {n : Nat} {f g : Nat → UInt8} (h : SH w0 w n f g) (hb : Below w.heap.size w w1) : SH w0 w1 n f g :=
  ⟨h.r0.keep hb h.r0.lt, h.r1.keep hb h.r1.lt, h.r2.keep hb h.r2.lt, h.b.trans (hb.mono (Nat.le_of_lt h.r0.lt))⟩
theorem SH.alloc {w0 w : World} {n : Nat} {f g : Nat → UInt8} (h : SH w0 w n f g) (o : Obj) : SH w0 (w.alloc o) n f g :=
  ⟨h.r0.alloc o, h.r1.alloc o, h.r2.alloc o, h.b.alloc (Nat.le_of_lt h.r0.lt) o⟩
structure SN (w0 w : World) (n m : Nat) (h y x : Nat → UInt8) : Prop where
  s : SH w0 w n h y
  r : Row w m 16 145 (by8 x)
theorem SN.drew {w0 w : World} {n m : Nat} {h y x : Nat → UInt8} (a : SN w0 w n m h y x) : SN w0 w.drew n m h y x := ⟨⟨a.s.r0, a.s.r1, a.s.r2, a.s.b.drew⟩, a.r⟩
theorem SN.keep {w0 w w1 : World} {n m : Nat} {h y x : Nat → UInt8} (a : SN w0 w n m h y x) (hb : Below w.heap.size w w1) : SN w0 w1 n m h y x := ⟨a.s.keep hb, a.r.keep hb a.r.lt⟩
theorem pk_congr {f g : Nat → UInt8} : ∀ n, (∀ j, j < n → f j = g j) → pk f n = pk g n
  | 0, _ => rfl
  | n + 1, h => by
    simp only [pk]
    rw [pk_congr n (fun j hj => h j (by omega)), h n (by omega)]
theorem prod_congr {f f' g g' : Nat → UInt8} (h : ∀ j, j < 16 → f j = f' j) (h' : ∀ j, j < 16 → g j = g' j) : prod f g = prod f' g' := by
  unfold prod prodSt
  rw [pk_congr 8 (fun j hj => h j (by omega)), pk_congr 8 (fun j hj => h' j (by omega)), pk_congr (f := fun j => f (8 + j)) (g := fun j => f' (8 + j)) 8 (fun j hj => h (8 + j) (by omega)),
    pk_congr (f := fun j => g (8 + j)) (g := fun j => g' (8 + j)) 8 (fun j hj => h' (8 + j) (by omega))]
theorem hashN_succ (h s : Nat → UInt8) (k : Nat) (x : Nat → UInt8) (hx : ∀ j, j < 16 → x j = s (16 * k + j)) : prod (fun j => hashN h s k j ^^^ x j) h = hashN h s (k + 1) := by
  show _ = prod (fun j => hashN h s k j ^^^ s (16 * k + j)) h
  exact prod_congr (fun j hj => by rw [hx j hj]) (fun _ _ => rfl)
theorem cut_cut (s : ByteArray) (k : Nat) : (s.extract (16 * k) s.size).extract 16 (s.size - 16 * k) = s.extract (16 * (k + 1)) s.size := by
  rw [ByteArray.extract_extract]
  congr 1
  omega
theorem round_end (w w3 : World) (n m : Nat) (h x : Nat → UInt8) (s : ByteArray) (k : Nat) (y : Nat → UInt8) (hk : 16 * k + 16 ≤ s.size) (hS : SN w w3 n m h (hashN h (sf s) k) x) (hy : y = hashN h (sf s) (k + 1)) :
    (∃ k_1, 16 * k_1 ≤ s.size ∧ Value.string ((s.extract (16 * k) s.size).extract 16 (s.size - 16 * k)) = Value.string (s.extract (16 * k_1) s.size) ∧
      SH w (w3.setRow (n + 1 + 1) (arr 16 (by8 y))) n h (hashN h (sf s) k_1)) ∧
    strLen (Value.string ((s.extract (16 * k) s.size).extract 16 (s.size - 16 * k))) < strLen (Value.string (s.extract (16 * k) s.size)) := by
  subst hy
  rw [cut_cut]
  refine ⟨⟨k + 1, by omega, rfl, ⟨hS.s.r0.setRow_other (by omega), hS.s.r1.setRow_other (by omega), hS.s.r2.setRow, Below.setRow hS.s.b (by omega) _⟩⟩, ?_⟩
  simp only [strLen]
  rw [cut_size _ _ _ (Nat.le_refl _), cut_size _ _ _ (Nat.le_refl _)]
  omega

set_option maxHeartbeats 400000 in
theorem bhash_yes (h : Nat → UInt8) (s : ByteArray) (w : World) (hs : s.size ≤ maxLen) (hn : s.size % 16 = 0) :
    Calls Tryz.prog 124 #[.agg (arr 16 (by8 h)), .string s] w fun e w' =>
      e = .returned (.tuple #[.agg (arr 16 (by8 (hashN h (sf s) (s.size / 16)))), .bool true]) ∧ Below w.heap.size w w' := by
  unfold maxLen at hs
  have hm : (((s.size : Int) % 16) != 0) = false := by rw [bne_eq_false_iff_eq]; omega
  go_enter Tryz.func124, Tryz.ntmps124
  go_wp2
  go_loopw [1] (fun t wr => ∃ k : Nat, 16 * k ≤ s.size ∧ t = .string (s.extract (16 * k) s.size) ∧ SH w wr w.heap.size h (hashN h (sf s) k)) (fun t _ => strLen t)
  case atStart =>
    refine ⟨0, by omega, by simp, ⟨?_, ?_, ?_, ?_⟩⟩
    · exact ((Row.new _ _ _ _ _ rfl).alloc _).alloc _
    · have h := Row.new (w.alloc (.cells (arr 16 (by8 h)) 145)) 16 145 z8 (w.heap.size + 1) (by simp)
      exact h.alloc _
    · exact Row.lit _ _ _ z8 _ _ (by simp) rfl
    · exact ((((Below.refl _ _).alloc (Nat.le_refl _) _).alloc (by simp) _).alloc (by simp; omega) _)
  case round =>
    obtain ⟨k, hk, rfl, hS⟩ := hrel
    by_cases hlt : 16 * k < s.size
    · have hk16 : 16 * k + 16 ≤ s.size := by omega
      have hem : (s.extract (16 * k) s.size).toList.isEmpty = false := by rw [bytes_isEmpty, cut_size _ _ _ (Nat.le_refl _)]; simp; omega
      go_wp2_with fail
      refine (of_yes _ _ ?_).mono ?_
      · rw [cut_size _ _ _ (by rw [cut_size _ _ _ (Nat.le_refl _)]; omega)]
      rintro e w1 ⟨rfl, hb1⟩
      have hS1 := hS.keep hb1
      have hx : ∀ j, j < 16 → sf ((s.extract (16 * k) s.size).extract 0 16) j = sf s (16 * k + j) := by
        intro j hj
        rw [sf_cut _ _ _ _ (by rw [cut_size _ _ _ (Nat.le_refl _)]; omega) (by omega), sf_cut _ _ _ _ (Nat.le_refl _) (by omega), Nat.zero_add]
      have HX : Hid (prod (fun j => hashN h (sf s) k j ^^^ sf ((s.extract (16 * k) s.size).extract 0 16) j) h = hashN h (sf s) (k + 1)) := hashN_succ h (sf s) k _ hx
      clear hx hS hb1
      go_wp2_with fail
      suffices H : ∀ W, SN w W w.heap.size w1.heap.size h (hashN h (sf s) k) (sf ((s.extract (16 * k) s.size).extract 0 16)) → Code.wp Tryz.prog _ _ _ W from H _ ⟨hS1.alloc _, Row.new _ _ _ _ _ rfl⟩
      intro W hS
      have hmm : w.heap.size + 1 + 1 < w1.heap.size := hS1.r2.lt
      clear hS1
      have r0 := heap_pos hS.s.r0
      have r2 := heap_pos hS.s.r2
      have r3 := heap_pos hS.r
      go_region_with (first
        | (go_at_call 135; refine (bxor_any _ _ _).mono ?_; rintro e w2 ⟨rfl, hb2⟩; have hS := hS.drew.keep hb2; have r0 := heap_pos hS.s.r0; have r2 := heap_pos hS.s.r2)
        | (go_at_call 145; refine (btimes_any _ _ _).mono ?_; rintro e w3 ⟨rfl, hb3⟩; have hS := hS.keep hb3; have r2 := heap_pos hS.s.r2))
      all_goals
        go_wp2
        exact round_end _ _ _ _ _ _ _ _ _ hk16 hS HX
    · have hem : (s.extract (16 * k) s.size).toList.isEmpty = true := by rw [bytes_isEmpty, cut_size _ _ _ (Nat.le_refl _)]; simp; omega
      have r2 := heap_pos hS.r2
      have r1 := heap_pos hS.r1
      go_wp2
      have hk2 : k = s.size / 16 := by omega
      refine bodyPost_ret (v := .tuple #[.agg (arr 16 (by8 (hashN h (sf s) k))), .bool true]) (res40b Tryz.results124 _ _ (w.heap.size + 1) _ _ rfl rfl hS.r1.setRow) rfl ⟨by rw [hk2], ?_⟩
      exact Below.setRow hS.b (by omega) _

set_option maxHeartbeats 400000 in
theorem chash_key (h s : ByteArray) (w : World) (hh : h.size ≠ 16) :
    Calls Tryz.prog 91 #[.string h, .string s] w fun e w' => e = .returned (.tuple #[.string ⟨#[]⟩, .int .i64 2]) ∧ Below w.heap.size w w' := by
  go_enter Tryz.func91, Tryz.ntmps91
  go_wp2_with fail
  refine (of_no _ _ hh).mono ?_
  rintro e w1 ⟨rfl, hb1⟩
  go_wp2
  go_ret2
  exact ⟨rfl, hb1.alloc hb1.size _⟩

set_option maxHeartbeats 400000 in
theorem chash_size (h s : ByteArray) (w : World) (hh : h.size = 16) (hs : s.size ≤ maxLen) (hn : s.size % 16 ≠ 0) :
    Calls Tryz.prog 91 #[.string h, .string s] w fun e w' => e = .returned (.tuple #[.string ⟨#[]⟩, .int .i64 5]) ∧ Below w.heap.size w w' := by
  have HH : Hid _ := hh
  have HN : Hid _ := hn
  clear hh hn
  go_enter Tryz.func91, Tryz.ntmps91
  go_wp2_with fail
  refine (of_yes _ _ HH).mono ?_
  rintro e w1 ⟨rfl, hb1⟩
  go_wp2_with fail
  refine (bhash_no _ _ _ hs HN).mono ?_
  rintro e w2 ⟨rfl, hb2⟩
  go_wp2
  go_ret2
  exact ⟨rfl, ((hb1.alloc hb1.size _).trans (hb2.mono (by have := hb1.size; simp; omega))).alloc (by have := hb1.size; have := hb2.size; simp at *; omega) _⟩

set_option maxHeartbeats 400000 in
theorem chash_ok (h s : ByteArray) (w : World) (hh : h.size = 16) (hs : s.size ≤ maxLen) (hn : s.size % 16 = 0) :
    Calls Tryz.prog 91 #[.string h, .string s] w fun e w' => e = .returned (.tuple #[.string (str 16 (hashN (sf h) (sf s) (s.size / 16))), .int .i64 0]) ∧ Below w.heap.size w w' := by
  have HH : Hid _ := hh
  have HN : Hid _ := hn
  clear hh hn
  go_enter Tryz.func91, Tryz.ntmps91
  go_wp2_with fail
  refine (of_yes _ _ HH).mono ?_
  rintro e w1 ⟨rfl, hb1⟩
  go_wp2_with fail
  refine (bhash_yes _ _ _ hs HN).mono ?_
  rintro e w2 ⟨rfl, hb2⟩
  go_wp2_with fail
  refine (text_any _ _).mono ?_
  rintro e w3 ⟨rfl, hb3⟩
  go_wp2
  go_ret2
  exact ⟨rfl, (((hb1.alloc hb1.size _).trans (hb2.mono (by have := hb1.size; simp; omega))).alloc (by have := hb1.size; have := hb2.size; simp at *; omega) _).trans (hb3.mono (by have := hb1.size; have := hb2.size; simp at *; omega))⟩
end Go.Proofs.YtgalgjmhdbncbaaGreat
namespace Go.Proofs.YtgalgjmhdbncbaaGreat
open Go.RowKit

def LdT (t : TypeId) (v : Value) : Sem Value := Instr.loadAt t v
theorem ldw40 (v : Value) : Instr.loadAt 145 v = LdT 145 v := rfl
theorem ldw50 (v : Value) : Instr.loadAt 206 v = LdT 206 v := rfl
theorem ldw60 (v : Value) : Instr.loadAt 217 v = LdT 217 v := rfl
theorem ldw63 (v : Value) : Instr.loadAt 220 v = LdT 220 v := rfl
theorem ldw52 (v : Value) : Instr.loadAt 208 v = LdT 208 v := rfl
def ldO (P : Program) (t : TypeId) (g off : Nat) (w : World) : Result Value := Sem.run P (Instr.loadAt t (.pointer (some ⟨g, off, none⟩))) w
def ldN (o : Option Obj) (off n : Nat) (w : World) (r : Result Value) : Result Value :=
  match o with
  | some (.cells cs _ fr) => if fr = (0, 0) ∧ off + n ≤ cs.size then .ok (.agg (cs.extract off (off + n))) w else r
  | _ => r
theorem run_ldT (t n : Nat) (d : TypeDesc) (hu : Tryz.prog.underlying t = some d) (hd : d.isRow = true) (hi : (Tryz.prog.info? t).map (·.size) = some n) (g off : Nat) (w : World) :
    Sem.run Tryz.prog (LdT t (.pointer (some ⟨g, off, none⟩))) w = ldN (blk w g) off n w (ldO Tryz.prog t g off w) := by
  unfold ldN blk
  split
  · rename_i cs t' fr h
    split
    · rename_i hc
      obtain ⟨rfl, h1⟩ := hc
      have hr := World.rangeAt_of_block h off n
      have := run_loadAt_mid (P := Tryz.prog) w g off t _ d hr hu hd (by rw [hi]; simp; omega)
      rw [Array.toArray_toList] at this
      exact this
    · rfl
  · rfl
theorem run_ldT40 (g off : Nat) (w : World) : Sem.run Tryz.prog (LdT 145 (.pointer (some ⟨g, off, none⟩))) w = ldN (blk w g) off 16 w (ldO Tryz.prog 145 g off w) := run_ldT 145 16 _ Tryz.underlying145 rfl (by kernel_rfl) g off w
theorem run_ldT50 (g off : Nat) (w : World) : Sem.run Tryz.prog (LdT 206 (.pointer (some ⟨g, off, none⟩))) w = ldN (blk w g) off 256 w (ldO Tryz.prog 206 g off w) := run_ldT 206 256 _ Tryz.underlying206 rfl (by kernel_rfl) g off w
theorem run_ldT60 (g off : Nat) (w : World) : Sem.run Tryz.prog (LdT 217 (.pointer (some ⟨g, off, none⟩))) w = ldN (blk w g) off 255 w (ldO Tryz.prog 217 g off w) := run_ldT 217 255 _ Tryz.underlying217 rfl (by kernel_rfl) g off w
theorem run_ldT63 (g off : Nat) (w : World) : Sem.run Tryz.prog (LdT 220 (.pointer (some ⟨g, off, none⟩))) w = ldN (blk w g) off 4 w (ldO Tryz.prog 220 g off w) := run_ldT 220 4 _ Tryz.underlying220 rfl (by kernel_rfl) g off w
theorem run_ldT52 (g off : Nat) (w : World) : Sem.run Tryz.prog (LdT 208 (.pointer (some ⟨g, off, none⟩))) w = ldN (blk w g) off 240 w (ldO Tryz.prog 208 g off w) := run_ldT 208 240 _ Tryz.underlying208 rfl (by kernel_rfl) g off w
theorem arr_cut (m : Nat) (V : Nat → Value) (off n : Nat) (h : off + n ≤ m) : (arr m V).extract off (off + n) = arr n fun j => V (off + j) := by
  apply Array.ext_getElem?
  intro i
  rw [Array.getElem?_extract]
  by_cases hi : i < n
  · rw [arr_get _ _ _ hi, if_pos (by rw [arr_size]; omega), arr_get _ _ _ (by omega)]
  · rw [if_neg (by rw [arr_size]; omega)]
    simp [arr, hi]
theorem ldN_mid (m : Nat) (V : Nat → Value) (t : TypeId) (off n : Nat) (w : World) (r : Result Value) (h : off + n ≤ m) : ldN (some (.cells (arr m V) t (0, 0))) off n w r = .ok (.agg (arr n fun j => V (off + j))) w := by
  unfold ldN
  simp only [arr_size, h, and_self, if_true, arr_cut m V off n h]
theorem ldN_row (m : Nat) (V : Nat → Value) (t : TypeId) (w : World) (r : Result Value) : ldN (some (.cells (arr m V) t (0, 0))) 0 m w r = .ok (.agg (arr m V)) w := by
  rw [ldN_mid _ _ _ _ _ _ _ (by omega)]
  simp
theorem ldN_key (rr : Nat) (ks bx : Nat → UInt8) (i : Nat) (w : World) (r : Result Value) (h : i < 15) : ldN (some (.cells (arr 497 (ciph rr ks bx)) 211 (0, 0))) (1 + i * 16) 16 w r = .ok (.agg (arr 16 (by8 fun j => ks (16 * i + j)))) w := by
  rw [ldN_mid _ _ _ _ _ _ _ (by omega)]
  congr 2
  apply arr_congr
  intro j hj
  unfold ciph
  rw [if_neg (by omega), if_pos (by omega)]
  unfold by8
  rw [show 1 + i * 16 + j - 1 = 16 * i + j by omega]

def StT (t : TypeId) (p v : Value) : Sem Unit := Instr.storeAt t p v
theorem stw40 (p v : Value) : Instr.storeAt 145 p v = StT 145 p v := rfl
theorem stw50 (p v : Value) : Instr.storeAt 206 p v = StT 206 p v := rfl
theorem stw63 (p v : Value) : Instr.storeAt 220 p v = StT 220 p v := rfl
theorem stw52 (p v : Value) : Instr.storeAt 208 p v = StT 208 p v := rfl
def stO (P : Program) (t : TypeId) (v : Value) (g : Nat) (w : World) : Result Unit := Sem.run P (Instr.storeAt t (.pointer (some ⟨g, 0, none⟩)) v) w
def stN (o : Option Obj) (n : Nat) (v : Value) (g : Nat) (w : World) (r : Result Unit) : Result Unit :=
  match o, v with
  | some (.cells cs _ fr), .agg cs' => if fr = (0, 0) ∧ cs.size = n ∧ cs'.size = n ∧ cs'.all (·.oneCell') = true then .ok () (w.setRow g cs') else r
  | _, _ => r
theorem run_stT (t n : Nat) (hi : (Tryz.prog.info? t).map (·.size) = some n) (g : Nat) (v : Value) (w : World) :
    Sem.run Tryz.prog (StT t (.pointer (some ⟨g, 0, none⟩)) v) w = stN (blk w g) n v g w (stO Tryz.prog t v g w) := by
  unfold stN blk
  split
  · rename_i cs t' fr cs' h
    split
    · rename_i hc
      obtain ⟨rfl, h1, h2, h3⟩ := hc
      show Sem.run Tryz.prog (Instr.storeAt t (.pointer (some ⟨g, 0, none⟩)) (.agg cs')) w = _
      simp only [Instr.storeAt, Instr.sureAddr, Sem.run_bind, Sem.run_pure, Result.andThen_ok]
      exact run_storeVar_row w g t' t _ _ h (by rw [h2]; exact hi) (by rw [h1, h2]) h3
    · rfl
  · rfl
theorem run_stT40 (g : Nat) (v : Value) (w : World) : Sem.run Tryz.prog (StT 145 (.pointer (some ⟨g, 0, none⟩)) v) w = stN (blk w g) 16 v g w (stO Tryz.prog 145 v g w) := run_stT 145 16 (by kernel_rfl) g v w
theorem run_stT50 (g : Nat) (v : Value) (w : World) : Sem.run Tryz.prog (StT 206 (.pointer (some ⟨g, 0, none⟩)) v) w = stN (blk w g) 256 v g w (stO Tryz.prog 206 v g w) := run_stT 206 256 (by kernel_rfl) g v w
theorem run_stT63 (g : Nat) (v : Value) (w : World) : Sem.run Tryz.prog (StT 220 (.pointer (some ⟨g, 0, none⟩)) v) w = stN (blk w g) 4 v g w (stO Tryz.prog 220 v g w) := run_stT 220 4 (by kernel_rfl) g v w
theorem run_stT52 (g : Nat) (v : Value) (w : World) : Sem.run Tryz.prog (StT 208 (.pointer (some ⟨g, 0, none⟩)) v) w = stN (blk w g) 240 v g w (stO Tryz.prog 208 v g w) := run_stT 208 240 (by kernel_rfl) g v w
theorem stN_row (n : Nat) (V : Nat → Value) (t : TypeId) (f : Nat → UInt8) (g : Nat) (w : World) (r : Result Unit) : stN (some (.cells (arr n V) t (0, 0))) n (.agg (arr n (by8 f))) g w r = .ok () (w.setRow g (arr n (by8 f))) := by
  have hc : ((0, 0) : Nat × Nat) = (0, 0) ∧ (arr n V).size = n ∧ (arr n (by8 f)).size = n ∧ (arr n (by8 f)).all (·.oneCell') = true := ⟨rfl, arr_size _ _, arr_size _ _, one8 n f⟩
  unfold stN
  exact if_pos hc
theorem stN_z (n : Nat) (V : Nat → Value) (t : TypeId) (g : Nat) (w : World) (r : Result Unit) : stN (some (.cells (arr n V) t (0, 0))) n (.agg (arr n z8)) g w r = .ok () (w.setRow g (arr n z8)) := stN_row n V t _ g w r
theorem res50 {fn : Func} {p : Tmp} (h : fn.results = #[.cell p 206]) (tmps : Array Value) (w : World) (g : Nat) (V : Nat → Value)
    (hp : tmps.getD p undef = .pointer (some ⟨g, 0, none⟩)) (t' : TypeId) (hg : Row w g 256 t' V) : (results fn tmps).run Tryz.prog w = .ok (.agg (arr 256 V)) w :=
  results_cell_row h tmps w g t' _ (0, 0) _ hp hg Tryz.underlying206 rfl (by rw [arr_size]; kernel_rfl)
theorem res63 {fn : Func} {p : Tmp} (h : fn.results = #[.cell p 220]) (tmps : Array Value) (w : World) (g : Nat) (V : Nat → Value)
    (hp : tmps.getD p undef = .pointer (some ⟨g, 0, none⟩)) (t' : TypeId) (hg : Row w g 4 t' V) : (results fn tmps).run Tryz.prog w = .ok (.agg (arr 4 V)) w :=
  results_cell_row h tmps w g t' _ (0, 0) _ hp hg Tryz.underlying220 rfl (by rw [arr_size]; kernel_rfl)
theorem res52 {fn : Func} {p : Tmp} (h : fn.results = #[.cell p 208]) (tmps : Array Value) (w : World) (g : Nat) (V : Nat → Value)
    (hp : tmps.getD p undef = .pointer (some ⟨g, 0, none⟩)) (t' : TypeId) (hg : Row w g 240 t' V) : (results fn tmps).run Tryz.prog w = .ok (.agg (arr 240 V)) w :=
  results_cell_row h tmps w g t' _ (0, 0) _ hp hg Tryz.underlying208 rfl (by rw [arr_size]; kernel_rfl)

def dbl (b : UInt8) : UInt8 := (b <<< 1) ^^^ ((b >>> 7) * 27)
theorem dbl_int : ∀ n : Fin 256, bits .xor .u8 ((n.val : Int) * 2 % 256) ((n.val : Int) / 128 * 27 % 256) = ((dbl (UInt8.ofNat n.val)).toNat : Int) := by decide +kernel
set_option maxHeartbeats 400000 in
theorem dbl_any (b : UInt8) (w : World) : Calls Tryz.prog 148 #[.int .u8 b.toNat] w fun e w' => e = .returned (.int .u8 (dbl b).toNat) ∧ w' = w := by
  have h := dbl_int ⟨b.toNat, b.toNat_lt⟩
  simp only [UInt8.ofNat_toNat] at h
  have HH : Hid _ := h
  clear h
  go_enter Tryz.func148, Tryz.ntmps148
  go_wp2
  go_ret
  exact ⟨by rw [← HH.out]; rfl, rfl⟩
def rotl (b : UInt8) (k : Nat) : UInt8 := UInt8.ofNat (b.toNat * 2 ^ k % 256 + b.toNat * 2 ^ k / 256)
set_option maxHeartbeats 400000 in
theorem rot_any (b : UInt8) (k : Nat) (hk : k < 5) (w : World) : Calls Tryz.prog 158 #[.int .u8 b.toNat, .int .i64 k] w fun e w' => e = .returned (.int .u8 (rotl b k).toNat) ∧ w' = w := by
  have e : bits .and .u64 (k : Int) 7 = (k : Int) := by
    have : ∀ n : Fin 5, bits .and .u64 (n.val : Int) 7 = (n.val : Int) := by decide +kernel
    exact this ⟨k, hk⟩
  have h : bits .or .u8 ((b.toNat : Int) * 2 ^ k % 256) ((b.toNat : Int) / 2 ^ (8 - k)) = ((rotl b k).toNat : Int) := by
    have : ∀ k : Fin 5, ∀ n : Fin 256, bits .or .u8 ((n.val : Int) * 2 ^ k.val % 256) ((n.val : Int) / 2 ^ (8 - k.val)) = ((rotl (UInt8.ofNat n.val) k.val).toNat : Int) := by decide +kernel
    have h := this ⟨k, hk⟩ ⟨b.toNat, b.toNat_lt⟩
    simp only [UInt8.ofNat_toNat] at h
    exact h
  have HH : Hid _ := h
  clear h
  go_enter Tryz.func158, Tryz.ntmps158
  go_wp2
  go_ret
  exact ⟨by rw [← HH.out]; rfl, rfl⟩
def spr (b : UInt8) : Nat → UInt8
  | 0 => 99
  | k + 1 => spr b k ^^^ rotl b k
theorem ret_u8 {a b : Int} (h : a = b) : Ending.returned (.int .u8 a) = .returned (.int .u8 b) := by rw [h]
set_option maxHeartbeats 400000 in
theorem spread_any (b : UInt8) (w : World) : Calls Tryz.prog 149 #[.int .u8 b.toNat] w fun e w' => e = .returned (.int .u8 (spr b 5).toNat) ∧ w' = w := by
  go_enter Tryz.func149, Tryz.ntmps149
  go_wp2
  go_loop [3, 5] (fun s i => ∃ k : Nat, k ≤ 5 ∧ i = .int .i64 k ∧ s = .int .u8 (spr b k).toNat) (fun _ i => 5 - (intOf i).toNat)
  case atStart => exact ⟨0, by omega, rfl, rfl⟩
  case round =>
    obtain ⟨k, hk, rfl, rfl⟩ := hrel
    by_cases hlt : k < 5
    · go_wp2_with (go_at_call 158; refine (rot_any b k hlt _).mono ?_; rintro e w1 ⟨rfl, rfl⟩)
      go_round
      case rel => exact ⟨k + 1, by omega, by go_num, by rw [u8_xor_b]; rfl⟩
      case measure => simp [intOf]; omega
    · have h5 : k = 5 := by omega
      subst h5
      go_wp2
      go_ret
      exact ⟨rfl, rfl⟩
theorem spread_0 (w : World) : Calls Tryz.prog 149 #[.int .u8 0] w fun e w' => e = .returned (.int .u8 (spr 0 5).toNat) ∧ w' = w := spread_any 0 w
end Go.Proofs.YtgalgjmhdbncbaaGreat
namespace Go.Proofs.YtgalgjmhdbncbaaGreat
open Go.RowKit

def zs (n : Nat) : ByteArray := str n fun _ => 0
theorem info5 : (Tryz.prog.info? 5).map (fun i => (i.zero, i.size, i.bytes)) = some (some (.int .u8 0), 1, 1) := by kernel_rfl
theorem made8 (n : Nat) : madeCells #[Value.int .u8 0] n = arr n z8 := by
  apply Array.ext_getElem?
  intro i
  by_cases h : i < n
  · rw [arr_get _ _ _ h]; simp [madeCells, h, Nat.mod_one, z8, by8]
  · simp [madeCells, arr, h]
theorem mk8 (n : Nat) (h : n ≤ 281474976710656) (w : World) : (Instr.makeSlice 105 (.int .i64 (n : Int)) (.int .i64 (n : Int))).run Tryz.prog w = .ok (.slice (some ⟨w.heap.size, 0, none⟩) n n) (w.alloc (.cells (arr n z8) 5)) := by
  have := run_make_row' (P := Tryz.prog) 105 5 (.int .u8 0) 1 Tryz.underlying105 info5 rfl .i64 .i64 n (by omega) (by omega) w
  rw [made8] at this
  exact this
theorem convZ (n : Nat) (w : World) : (convert 105 9 (.slice (some ⟨w.heap.size, 0, none⟩) n n)).run Tryz.prog (w.alloc (.cells (arr n z8) 5)) = .ok (.string (zs n)) (w.alloc (.cells (arr n z8) 5)) :=
  conv8 _ _ n n 5 (fun _ => 0) n (Row.new _ _ _ _ _ rfl) (Nat.le_refl _)

def Cv8 (v : Value) : Sem Value := convert 105 9 v
theorem cv_wrap (v : Value) : convert 105 9 v = Cv8 v := rfl
def cvOrig (P : Program) (g n c : Nat) (w : World) : Result Value := Sem.run P (convert 105 9 (.slice (some ⟨g, 0, none⟩) n c)) w
def isBytes (cs : Array Value) (n : Nat) : Bool := cs.size = n && cs.all fun | .int .u8 x => decide (0 ≤ x ∧ x < 256) | _ => false
def cvRes (o : Option Obj) (n : Nat) (w : World) (r : Result Value) : Result Value :=
  match o with
  | some (.cells cs _ fr) => if fr = (0, 0) ∧ isBytes cs n = true then .ok (.string (str n fun j => match cs[j]? with | some (.int .u8 x) => UInt8.ofNat x.toNat | _ => 0)) w else r
  | _ => r
theorem isBytes_arr (n : Nat) (cs : Array Value) (h : isBytes cs n = true) : cs = arr n (by8 fun j => match cs[j]? with | some (.int .u8 x) => UInt8.ofNat x.toNat | _ => 0) := by
  simp only [isBytes, Bool.and_eq_true, decide_eq_true_eq] at h
  obtain ⟨h1, h2⟩ := h
  apply Array.ext_getElem?
  intro i
  by_cases hi : i < n
  · rw [arr_get _ _ _ hi]
    have hi' : i < cs.size := by omega
    have h3 := (Array.all_eq_true.1 h2) i hi'
    rw [Array.getElem?_eq_getElem hi']
    simp only [by8, Array.getElem?_eq_getElem hi']
    revert h3
    generalize cs[i] = v
    intro h3
    split at h3
    · simp only [decide_eq_true_eq] at h3
      rename_i x
      have : ((UInt8.ofNat x.toNat).toNat : Int) = x := by
        rw [UInt8.toNat_ofNat']; omega
      rw [this]
    · cases h3
  · simp [arr, hi]; omega
theorem run_cv (g n c : Nat) (w : World) : Sem.run Tryz.prog (Cv8 (.slice (some ⟨g, 0, none⟩) n c)) w = cvRes (blk w g) n w (cvOrig Tryz.prog g n c w) := by
  unfold cvRes blk
  split
  · rename_i cs t fr h
    split
    · rename_i hc
      obtain ⟨rfl, hb⟩ := hc
      have e := isBytes_arr n cs hb
      have hr : Row w g n t (by8 fun j => match cs[j]? with | some (.int .u8 x) => UInt8.ofNat x.toNat | _ => 0) := by
        unfold Row; rw [← e]; exact h
      exact conv8 w g n c t _ n hr (Nat.le_refl _)
    · rfl
  · rfl
theorem cvRes_row (n : Nat) (t : TypeId) (f : Nat → UInt8) (w : World) (r : Result Value) : cvRes (some (.cells (arr n (by8 f)) t (0, 0))) n w r = .ok (.string (str n f)) w := by
  have hb : isBytes (arr n (by8 f)) n = true := by
    unfold isBytes
    rw [Bool.and_eq_true]
    refine ⟨by simp [arr_size], ?_⟩
    rw [Array.all_eq_true]
    intro i hi
    have hi' : i < n := by simpa [arr_size] using hi
    have : (arr n (by8 f))[i] = by8 f i := by
      have := arr_get n (by8 f) i hi'
      rw [Array.getElem?_eq_getElem hi] at this
      exact Option.some.inj this
    rw [this]
    have := (f i).toNat_lt
    simp [by8]
    omega
  unfold cvRes
  simp only [hb, and_self, if_true]
  congr 2
  apply str_congr
  intro j hj
  rw [arr_get _ _ _ hj]
  simp [by8]
theorem cvRes_z (n : Nat) (t : TypeId) (w : World) (r : Result Value) : cvRes (some (.cells (arr n z8) t (0, 0))) n w r = .ok (.string (zs n)) w := cvRes_row n t _ w r
theorem pick_neg (c : Int) (n : Nat) (hn : 0 < n) (hc : c < 0) : ∃ r : Nat, r < n ∧ -((c + 1).tmod n) = (r : Int) := by
  rw [← Int.neg_tmod, Int.tmod_eq_emod_of_nonneg (by omega)]
  have h1 := Int.emod_nonneg (-(c + 1)) (b := (n : Int)) (by omega)
  have h2 := Int.emod_lt_of_pos (-(c + 1)) (b := (n : Int)) (by omega)
  exact ⟨(-(c + 1) % (n : Int)).toNat, by omega, by omega⟩
theorem pick_pos (c : Int) (n : Nat) (hn : 0 < n) : ∃ r : Nat, r < n ∧ c % (n : Int) = (r : Int) := by
  have h1 := Int.emod_nonneg c (b := (n : Int)) (by omega)
  have h2 := Int.emod_lt_of_pos c (b := (n : Int)) (by omega)
  exact ⟨(c % (n : Int)).toNat, by omega, by omega⟩
set_option maxHeartbeats 400000 in
theorem pick_any (c : Int) (n : Nat) (h1 : -9223372036854775808 ≤ c) (h2 : c ≤ 9223372036854775807) (hn : 0 < n) (hn2 : n ≤ 1000000) (w : World) :
    Calls Tryz.prog 17 #[.int .i64 c, .int .i64 n] w fun e w' => (∃ r : Nat, r < n ∧ e = .returned (.int .i64 r)) ∧ w' = w := by
  by_cases hc : c < 0
  · obtain ⟨r, hr, he⟩ := pick_neg c n hn hc
    have HE : Hid _ := he
    clear he
    go_enter Tryz.func17, Tryz.ntmps17
    go_wp2
    go_ret
    exact ⟨⟨r, hr, by rw [← HE.out]; rfl⟩, rfl⟩
  · obtain ⟨r, hr, he⟩ := pick_pos c n hn
    have HE : Hid _ := he
    clear he
    go_enter Tryz.func17, Tryz.ntmps17
    go_wp2
    go_ret
    exact ⟨⟨r, hr, by rw [← HE.out]; rfl⟩, rfl⟩

theorem bytes_ext {a b : ByteArray} (hs : a.size = b.size) (h : ∀ j, j < a.size → sf a j = sf b j) : a = b := by
  rw [← str_sf a a.size rfl, ← str_sf b a.size hs.symm]
  exact str_congr h
theorem sf_append (a b : ByteArray) (j : Nat) : sf (a ++ b) j = if j < a.size then sf a j else sf b (j - a.size) := by
  have : (a ++ b).data = a.data ++ b.data := by simp
  simp only [sf, this]
  by_cases h : j < a.size
  · simp [Array.getElem?_append, h]
  · simp [Array.getElem?_append, h]
theorem sf_past (a : ByteArray) (j : Nat) (h : a.size ≤ j) : sf a j = 0 := by
  have h' : a.data.size ≤ j := h
  simp [sf, Array.getElem?_eq_none h']
theorem sf_zs (n j : Nat) : sf (zs n) j = 0 := by
  by_cases h : j < n
  · exact sf_str _ _ _ h
  · exact sf_past _ _ (by rw [zs, str_size]; omega)
theorem just_short (s : ByteArray) (n : Nat) (h : s.size ≤ n) : s ++ zs (n - s.size) = str n (sf s) := by
  apply bytes_ext
  · rw [str_size, ByteArray.size_append, zs, str_size]; omega
  · intro j hj
    rw [ByteArray.size_append, zs, str_size] at hj
    rw [sf_append, sf_str _ _ _ (by omega)]
    split
    · rfl
    · rw [sf_zs, sf_past _ _ (by omega)]
theorem just_long (s : ByteArray) (n : Nat) (h : n < s.size) : s.extract 0 n ++ zs 0 = str n (sf s) := by
  apply bytes_ext
  · rw [str_size, ByteArray.size_append, zs, str_size, cut_size _ _ _ (by omega)]; omega
  · intro j hj
    rw [ByteArray.size_append, zs, str_size, cut_size _ _ _ (by omega)] at hj
    rw [sf_append, sf_str _ _ _ (by omega), cut_size _ _ _ (by omega), if_pos (by omega), sf_cut _ _ _ _ (by omega) (by omega), Nat.zero_add]

theorem zs_size (n : Nat) : (zs n).size = n := str_size _ _
set_option maxHeartbeats 400000 in
theorem just_any (s : ByteArray) (n : Nat) (hn : n ≤ 1000000) (hs : s.size ≤ maxLen) (w : World) :
    Calls Tryz.prog 83 #[.string s, .int .i64 n] w fun e w' => e = .returned (.string (str n (sf s))) ∧ Below w.heap.size w w' := by
  unfold maxLen at hs
  by_cases hlt : n < s.size
  · have hm : ∀ w, (Instr.makeSlice 105 (.int .i64 0) (.int .i64 0)).run Tryz.prog w = .ok (.slice (some ⟨w.heap.size, 0, none⟩) 0 0) (w.alloc (.cells (arr 0 z8) 5)) := fun w => mk8 0 (by omega) w
    have hcv := convZ 0
    have HL : Hid _ := just_long s n hlt
    have hsz := cut_size s 0 n (by omega)
    have hz := zs_size 0
    go_enter Tryz.func83, Tryz.ntmps83
    go_wp2
    go_ret
    exact ⟨by rw [← HL.out]; rfl, (Below.refl _ _).alloc (Nat.le_refl _) _⟩
  · have hm := mk8 (n - s.size) (by omega)
    have ec : ((n - s.size : Nat) : Int) = (n : Int) - s.size := by omega
    rw [ec] at hm
    have hcv := convZ (n - s.size)
    have HL : Hid _ := just_short s n (by omega)
    have hz := zs_size (n - s.size)
    clear ec
    go_enter Tryz.func83, Tryz.ntmps83
    go_wp2
    go_ret
    exact ⟨by rw [← HL.out]; rfl, (Below.refl _ _).alloc (Nat.le_refl _) _⟩

theorem str_get (n : Nat) (f : Nat → UInt8) (k : Nat) (h : k < (str n f).size) : (str n f)[k] = f k := by
  show (str n f).data[k]'h = f k
  simp [str]
end Go.Proofs.YtgalgjmhdbncbaaGreat
namespace Go.Proofs.YtgalgjmhdbncbaaGreat

def numF (v n : Nat) (j : Nat) : UInt8 := UInt8.ofNat (v / 256 ^ (n - 1 - j))
def numT (v n : Nat) : ByteArray := str n (numF v n)
def up16 (n : Nat) : Nat := (n + 15) / 16 * 16
def padT (s : ByteArray) : ByteArray := str (up16 s.size) (sf s)
def valF (f : Nat → UInt8) (at' : Nat) : Nat → Nat
  | 0 => 0
  | n + 1 => valF f at' n * 256 + (f (at' + n)).toNat
theorem up16_le (n : Nat) : n ≤ up16 n := by unfold up16; omega
theorem up16_mod (n : Nat) : up16 n % 16 = 0 := by unfold up16; omega
theorem up16_up (n : Nat) : up16 n < n + 16 := by unfold up16; omega
theorem padT_size (s : ByteArray) : (padT s).size = up16 s.size := str_size _ _
theorem numT_size (v n : Nat) : (numT v n).size = n := str_size _ _
end Go.Proofs.YtgalgjmhdbncbaaGreat
namespace Go.Proofs.YtgalgjmhdbncbaaGreat
open Go.RowKit

theorem Chg.refl (g : Nat) (w : World) : Chg g w w := ⟨rfl, rfl, rfl, rfl, fun _ _ => rfl⟩
theorem Chg.setCell {g : Nat} {w w' : World} (h : Chg g w w') (o : Nat) (v : Value) : Chg g w (w'.setCell ⟨g, o, none⟩ v) :=
  ⟨h.os, h.tape, h.output, by rw [← h.size]; simp, fun k hk => by rw [heap_skip _ _ _ _ _ hk]; exact h.block k hk⟩
theorem Chg.trans {g : Nat} {a b c : World} (h : Chg g a b) (h' : Chg g b c) : Chg g a c :=
  ⟨h'.os.trans h.os, h'.tape.trans h.tape, h'.output.trans h.output, h'.size.trans h.size, fun k hk => (h'.block k hk).trans (h.block k hk)⟩

def putF (f : Nat → UInt8) (off n v j : Nat) : UInt8 := if off ≤ j ∧ j < off + n then numF v n (j - off) else f j
theorem low8n (u : Nat) : ((u : Int) % (256 : Int)) = (((UInt8.ofNat u).toNat : Nat) : Int) := by
  rw [UInt8.toNat_ofNat']; omega

set_option maxHeartbeats 400000 in
theorem put_any (g off n cap m : Nat) (t : TypeId) (f : Nat → UInt8) (v : Nat) (hv : v < 18446744073709551616) (hm : off + n ≤ m) (hn : n ≤ 1000) (w : World) (hr : Row w g m t (by8 f)) :
    Calls Tryz.prog 112 #[.slice (some ⟨g, off, none⟩) n cap, .int .u64 v] w fun e w' => e = .returned (.tuple #[]) ∧ Chg g w w' ∧ Row w' g m t (by8 (putF f off n v)) := by
  go_enter Tryz.func112, Tryz.ntmps112
  go_wp2
  go_loopw [1, 4] (fun x i wr => ∃ q u : Nat, Hid (u = v / 256 ^ (n - q)) ∧ u < 18446744073709551616 ∧ q ≤ n ∧ x = .int .u64 u ∧ i = .int .i64 ((q : Int) - 1) ∧ Chg g w wr ∧ Row wr g m t (by8 fun j => if off + q ≤ j ∧ j < off + n then numF v n (j - off) else f j)) (fun _ i _ => (intOf i + 1).toNat)
  case atStart =>
    refine ⟨n, v, by show v = v / 256 ^ (n - n); simp, hv, Nat.le_refl _, rfl, by go_num, Chg.refl _ _, hr.congr fun j hj => ?_⟩
    simp only [by8]
    rw [if_neg (by omega)]
  case round =>
    clear hr
    obtain ⟨q, u, HU, hu, hq, rfl, rfl, hC, r0⟩ := hrel
    match q, hq, HU, r0 with
    | 0, hq, HU, r0 =>
      go_wp2
      go_end0
      refine ⟨rfl, hC, r0.congr fun j hj => ?_⟩
      simp only [by8, putF, Nat.add_zero]
    | p + 1, hq, HU, r0 =>
      rw [show (((p + 1 : Nat) : Int) - 1) = (p : Int) by omega]
      have c0 := r0.cell (off + p) (by omega)
      have f0 := r0.frozen (off + p)
      have HL : Hid _ := low8n u
      have HQ : Hid (u / 256 = v / 256 ^ (n - p)) := by
        show u / 256 = _
        rw [HU.out, Nat.div_div_eq_div_mul, show n - p = n - (p + 1) + 1 by omega, Nat.pow_succ]
      have hqu : u / 256 < 18446744073709551616 := by omega
      go_wp2
      rw [HL.out]
      go_roundw
      case rel =>
        refine ⟨p, u / 256, HQ, hqu, by omega, by go_num, by go_num, hC.setCell _ _, (r0.set (off + p) _).congr fun j hj => ?_⟩
        by_cases hj : j = off + p
        · subst hj
          simp only [by8, if_true]
          rw [if_pos (by omega)]
          unfold numF
          rw [show n - 1 - (off + p - off) = n - (p + 1) by omega, ← HU.out]
        · simp only [by8, hj, if_false]
          by_cases h2 : off + (p + 1) ≤ j ∧ j < off + n
          · rw [if_pos h2, if_pos (by omega)]
          · rw [if_neg h2, if_neg (by omega)]
      case measure => simp [intOf]

theorem valF_lt (f : Nat → UInt8) (a : Nat) : ∀ n, valF f a n < 256 ^ n
  | 0 => by simp [valF]
  | n + 1 => by
    have := valF_lt f a n
    have := (f (a + n)).toNat_lt
    simp only [valF, Nat.pow_succ]
    omega
theorem or_byte (x : Nat) (b : UInt8) (hx : x < 72057594037927936) : bits .or .u64 ((x : Int) * 256) (b.toNat : Int) = ((x * 256 + b.toNat : Nat) : Int) := by
  have hb := b.toNat_lt
  rw [show (x : Int) * 256 = ((x * 256 : Nat) : Int) by omega, u64_or_nat _ _ (by omega) (by omega)]
  congr 1
  have := Nat.two_pow_add_eq_or_of_lt (i := 8) (b := b.toNat) (by omega) x
  rw [Nat.mul_comm x 256, show (256 : Nat) = 2 ^ 8 from rfl, this]

set_option maxRecDepth 100000 in
set_option maxHeartbeats 400000 in
theorem nof_cells (g off n cap : Nat) (f : Nat → UInt8) (hn : n ≤ 7) (hc : n ≤ cap) (w : World) (hr : ∀ j, j < n → w.cell? ⟨g, off + j, none⟩ = some (.int .u8 (f (off + j)).toNat)) :
    Calls Tryz.prog 72 #[.slice (some ⟨g, off, none⟩) n cap] w fun e w' => e = .returned (.int .u64 (valF f off n)) ∧ w' = w := by
  go_enter Tryz.func72, Tryz.ntmps72
  go_wp2
  go_loop [3, 5, 8] (fun x _ i => ∃ q u : Nat, Hid (u = valF f off q) ∧ q ≤ n ∧ x = .int .u64 u ∧ i = .int .i64 q) (fun _ _ i => n - (intOf i).toNat)
  case atStart => exact ⟨0, 0, rfl, by omega, rfl, rfl⟩
  case round =>
    obtain ⟨q, u, HU, hq, rfl, rfl⟩ := hrel
    by_cases hlt : q < n
    · have c0 : w.cell? ⟨g, off + q, none⟩ = some (.int .u8 (f (off + q)).toNat) := hr q hlt
      have hbb : ((f (off + q)).toNat : Int) < 256 := by have := (f (off + q)).toNat_lt; omega
      have hu : u < 72057594037927936 := by
        have h1 := valF_lt f off q
        have h2 : 256 ^ q ≤ 256 ^ 6 := Nat.pow_le_pow_right (by omega) (by omega)
        rw [← HU.out] at h1
        have : (256 : Nat) ^ 6 = 281474976710656 := rfl
        omega
      have HO : Hid _ := or_byte u (f (off + q)) hu
      go_wp2
      rw [HO.out]
      go_round
      case rel =>
        refine ⟨q + 1, u * 256 + (f (off + q)).toNat, ?_, by omega, rfl, by go_num⟩
        show _ = valF f off q * 256 + (f (off + q)).toNat
        rw [← HU.out]
      case measure => simp [intOf]; omega
    · have hqn : q = n := by omega
      subst hqn
      go_wp2
      go_ret
      exact ⟨by rw [HU.out]; rfl, rfl⟩
theorem nof_any (g off n cap m : Nat) (t : TypeId) (f : Nat → UInt8) (hm : off + n ≤ m) (hn : n ≤ 7) (hc : n ≤ cap) (w : World) (hr : Row w g m t (by8 f)) :
    Calls Tryz.prog 72 #[.slice (some ⟨g, off, none⟩) n cap] w fun e w' => e = .returned (.int .u64 (valF f off n)) ∧ w' = w :=
  nof_cells g off n cap f hn hc w fun j hj => hr.cell (off + j) (by omega)
end Go.Proofs.YtgalgjmhdbncbaaGreat
namespace Go.Proofs.YtgalgjmhdbncbaaGreat
open Go.RowKit
attribute [local go_sem ↓] Go.wp_at_zero Go.wp_at_succ

structure Fr (L : List Nat) (w w' : World) : Prop where
  os : w'.os = w.os
  tape : w'.tape = w.tape
  output : w'.output = w.output
  size : w.heap.size ≤ w'.heap.size
  block : ∀ k, k < w.heap.size → k ∉ L → w'.heap[k]? = w.heap[k]?
theorem Fr.refl (L : List Nat) (w : World) : Fr L w w := ⟨rfl, rfl, rfl, Nat.le_refl _, fun _ _ _ => rfl⟩
theorem Fr.trans {L : List Nat} {a b c : World} (h : Fr L a b) (k : Fr L b c) : Fr L a c :=
  ⟨k.os.trans h.os, k.tape.trans h.tape, k.output.trans h.output, Nat.le_trans h.size k.size, fun i hi hn => (k.block i (Nat.lt_of_lt_of_le hi h.size) hn).trans (h.block i hi hn)⟩
theorem Fr.mono {L L' : List Nat} {w w' : World} (h : Fr L w w') (hL : ∀ k, k < w.heap.size → k ∈ L → k ∈ L') : Fr L' w w' :=
  ⟨h.os, h.tape, h.output, h.size, fun k hk hn => h.block k hk (fun hm => hn (hL k hk hm))⟩
theorem Fr.sub {L L' : List Nat} {w w' : World} (h : Fr L w w') (hL : ∀ k, k ∈ L → k ∈ L') : Fr L' w w' := h.mono fun k _ => hL k
theorem Fr.of_below {w w' : World} {B : Nat} (L : List Nat) (h : Below B w w') (hB : w.heap.size ≤ B) : Fr L w w' := ⟨h.os, h.tape, h.output, h.size, fun k hk _ => h.block k (by omega)⟩
theorem Fr.of_chg {g : Nat} {w w' : World} {L : List Nat} (h : Chg g w w') (hg : g ∈ L) : Fr L w w' :=
  ⟨h.os, h.tape, h.output, Nat.le_of_eq h.size.symm, fun k _ hn => h.block k (fun e => hn (e ▸ hg))⟩
theorem Fr.drew {L : List Nat} {w w' : World} (h : Fr L w w') : Fr L w w'.drew := ⟨h.os, h.tape, h.output, h.size, h.block⟩
theorem Fr.alloc {L : List Nat} {w w' : World} (h : Fr L w w') (o : Obj) : Fr L w (w'.alloc o) :=
  h.trans ⟨rfl, rfl, rfl, by simp, fun k hk _ => Below.heap_alloc _ _ _ hk⟩
theorem Fr.setCell {L : List Nat} {w w' : World} (h : Fr L w w') {a : Addr} (ha : w.heap.size ≤ a.block ∨ a.block ∈ L) (v : Value) : Fr L w (w'.setCell a v) :=
  ⟨h.os, h.tape, h.output, by simpa [World.setCell] using h.size, fun k hk hn => by
    rw [Below.heap_setCell _ _ _ _ (by rintro rfl; rcases ha with ha | ha; omega; exact hn ha)]; exact h.block k hk hn⟩
theorem Row.fr {w w' : World} {L : List Nat} {g n : Nat} {t : TypeId} {V : Nat → Value} (h : Row w g n t V) (hf : Fr L w w') (hg : g ∉ L) : Row w' g n t V := by
  unfold Row; rw [hf.block g h.lt hg]; exact h
theorem Fr.below {w w' : World} {L : List Nat} {B : Nat} (h : Fr L w w') (hB : B ≤ w.heap.size) (hL : ∀ k, k ∈ L → B ≤ k) : Below B w w' :=
  ⟨h.os, h.tape, h.output, h.size, fun k hk => h.block k (by omega) (fun hm => by have := hL k hm; omega)⟩
theorem Row.ne {w : World} {g g' n n' : Nat} {t t' : TypeId} {V V' : Nat → Value} (h : Row w g n t V) (h' : Row w g' n' t' V') (ht : t ≠ t') : g ≠ g' := by
  rintro rfl
  unfold Row at h h'
  rw [h] at h'
  simp only [Option.some.injEq, Obj.cells.injEq] at h'
  exact ht h'.2.1

structure Sto where
  cell : Nat → ByteArray
  left : Nat
  done : Bool
  tab : Option Nat
def ptr (g : Nat) : Value := .pointer (some ⟨g, 0, none⟩)
def ptrO : Option Nat → Value
  | none => .pointer none
  | some g => .pointer (some ⟨g, 0, none⟩)
def stoV (S : Sto) (j : Nat) : Value := if j < 8 then .string (S.cell j) else if j = 8 then .int .i64 S.left else if j = 9 then .bool S.done else ptrO S.tab
def StoP (w : World) (g : Nat) (S : Sto) : Prop := Row w g 11 84 (stoV S)
theorem StoP.cellAt {w : World} {g : Nat} {S : Sto} (h : StoP w g S) (k : Nat) (hk : k < 8) : w.cell? ⟨g, k, none⟩ = some (.string (S.cell k)) := by
  rw [Row.cell h k (by omega)]; simp [stoV, hk]
theorem StoP.leftAt {w : World} {g : Nat} {S : Sto} (h : StoP w g S) : w.cell? ⟨g, 8, none⟩ = some (.int .i64 S.left) := by rw [Row.cell h 8 (by omega)]; rfl
theorem StoP.doneAt {w : World} {g : Nat} {S : Sto} (h : StoP w g S) : w.cell? ⟨g, 9, none⟩ = some (.bool S.done) := by rw [Row.cell h 9 (by omega)]; rfl
theorem StoP.tabAt {w : World} {g : Nat} {S : Sto} (h : StoP w g S) : w.cell? ⟨g, 10, none⟩ = some (ptrO S.tab) := by rw [Row.cell h 10 (by omega)]; rfl
theorem StoP.setCell {w : World} {g : Nat} {S : Sto} (h : StoP w g S) (k : Nat) (hk : k < 8) (x : ByteArray) : StoP (w.setCell ⟨g, k, none⟩ (.string x)) g { S with cell := fun j => if j = k then x else S.cell j } := by
  refine Row.congr (Row.set h k _) (fun j hj => ?_)
  by_cases e : j = k
  · subst e; simp [stoV, hk]
  · simp [stoV, e]
theorem StoP.setLeft {w : World} {g : Nat} {S : Sto} (h : StoP w g S) (n : Nat) : StoP (w.setCell ⟨g, 8, none⟩ (.int .i64 n)) g { S with left := n } := by
  refine Row.congr (Row.set h 8 _) (fun j hj => ?_)
  by_cases e : j = 8
  · subst e; simp [stoV]
  · simp [stoV, e]
theorem StoP.setDone {w : World} {g : Nat} {S : Sto} (h : StoP w g S) (b : Bool) : StoP (w.setCell ⟨g, 9, none⟩ (.bool b)) g { S with done := b } := by
  refine Row.congr (Row.set h 9 _) (fun j hj => ?_)
  by_cases e : j = 9
  · subst e; simp [stoV]
  · simp [stoV, e]
theorem StoP.setTab {w : World} {g : Nat} {S : Sto} (h : StoP w g S) (t : Option Nat) : StoP (w.setCell ⟨g, 10, none⟩ (ptrO t)) g { S with tab := t } := by
  refine Row.congr (Row.set h 10 _) (fun j hj => ?_)
  by_cases e : j = 10
  · subst e; simp [stoV]
  · simp only [stoV, e, if_false]
    repeat (split; rfl)
    omega
def newSto : Sto := ⟨fun _ => ⟨#[]⟩, 0, false, none⟩
set_option maxRecDepth 100000 in
set_option maxHeartbeats 1000000 in
theorem newStore_any (w : World) : Calls Tryz.prog 15 #[] w fun e w' => e = .returned (ptr w.heap.size) ∧ StoP w' w.heap.size newSto ∧ Below w.heap.size w w' := by
  go_enter Tryz.func15, Tryz.ntmps15
  go_wp2
  go_ret
  refine ⟨rfl, ?_, (Below.refl _ _).alloc (Nat.le_refl _) _⟩
  exact Row.lit _ _ _ _ _ _ rfl (by kernel_rfl)

def inCell (i : Int) : Bool := decide (0 ≤ i ∧ i < 8)
set_option maxHeartbeats 1000000 in
theorem isCell_any (i : Int) (w : World) : Calls Tryz.prog 50 #[.int .i64 i] w fun e w' => e = .returned (.bool (inCell i)) ∧ w' = w := by
  go_enter Tryz.func50, Tryz.ntmps50
  by_cases h1 : 0 ≤ i
  · go_wp2
    go_ret
    refine ⟨?_, rfl⟩
    simp [inCell, h1]
  · have : (decide (0 ≤ i)) = false := by simp [h1]
    go_wp2
    go_ret
    refine ⟨?_, rfl⟩
    simp [inCell]; omega

def cellM (S : Sto) (i : Int) : ByteArray × Int := if inCell i = true then (S.cell i.toNat, 0) else (⟨#[]⟩, 1)
set_option maxRecDepth 100000 in
set_option maxHeartbeats 1000000 in
theorem cell_any (g : Nat) (S : Sto) (i : Int) (w : World) (h : StoP w g S) :
    Calls Tryz.prog 23 #[ptr g, .int .i64 i] w fun e w' => e = .returned (.tuple #[.string (cellM S i).1, .int .i64 (cellM S i).2]) ∧ w' = w := by
  unfold ptr cellM
  by_cases hi : inCell i = true
  · rw [if_pos hi]
    have hi' : 0 ≤ i ∧ i < 8 := by simpa [inCell] using hi
    obtain ⟨k, rfl⟩ : ∃ k : Nat, i = k := ⟨i.toNat, by omega⟩
    have hk : k < 8 := by omega
    have c := StoP.cellAt h k hk
    rw [Int.toNat_natCast]
    go_enter Tryz.func23, Tryz.ntmps23
    go_wp2_with fail
    refine (isCell_any _ _).mono ?_
    rintro e w1 ⟨rfl, hw⟩
    subst hw
    go_wp2
    go_ret2
    exact ⟨rfl, rfl⟩
  · rw [if_neg hi]
    have hi : inCell i = false := by simpa using hi
    go_enter Tryz.func23, Tryz.ntmps23
    go_wp2_with fail
    refine (isCell_any _ _).mono ?_
    rintro e w1 ⟨rfl, hw⟩
    subst hw
    go_wp2
    go_ret2
    exact ⟨rfl, rfl⟩

set_option maxRecDepth 100000 in
set_option maxHeartbeats 1000000 in
theorem interrupted_any (g : Nat) (S : Sto) (hl : S.left ≤ 9223372036854775807) (w : World) (h : StoP w g S) :
    Calls Tryz.prog 51 #[ptr g] w fun e w' => e = .returned (.bool (decide (S.left = 1))) ∧ StoP w' g { S with left := S.left - 1 } ∧ Chg g w w' := by
  unfold ptr
  have c := StoP.leftAt h
  have f := Row.frozen h 8
  by_cases h0 : S.left = 0
  · have e0 : ((S.left : Int) == 0) = true := by rw [beq_iff_eq]; omega
    go_enter Tryz.func51, Tryz.ntmps51
    go_wp2
    go_ret
    refine ⟨by simp [h0], ?_, Chg.refl _ _⟩
    have : ({ S with left := S.left - 1 } : Sto) = S := by cases S; simp only [Sto.mk.injEq, and_true, true_and] at *; omega
    rw [this]; exact h
  · have e0 : ((S.left : Int) == 0) = false := by rw [beq_eq_false_iff_ne]; omega
    obtain ⟨L, hL⟩ : ∃ L, S.left = L + 1 := ⟨S.left - 1, by omega⟩
    rw [hL] at c e0 hl
    have e1 : IntKind.i64.wrap (((L + 1 : Nat) : Int) - 1) = (L : Int) := by
      rw [show ((L + 1 : Nat) : Int) - 1 = (L : Int) by omega]
      have := wrap_i64_ediv (L : Int) 1 (by omega) (by omega) (by omega)
      rwa [Int.ediv_one] at this
    rw [hL]
    have hS := StoP.setLeft h L
    have c2 := StoP.leftAt hS
    go_enter Tryz.func51, Tryz.ntmps51
    go_wp2
    go_ret
    refine ⟨congrArg (fun b => Ending.returned (Value.bool b)) (show ((L : Int) == 0) = decide (L = 0) from ?_), hS, Chg.setCell (Chg.refl _ _) _ _⟩
    rw [Bool.eq_iff_iff, beq_iff_eq, decide_eq_true_iff]
    omega
def writeM (S : Sto) (i : Int) (x : ByteArray) : Int := if inCell i = false then 1 else if 64 < x.size then 4 else if S.left = 1 then 8 else 0
def wroteM (S : Sto) (i : Int) (x : ByteArray) : Sto :=
  if inCell i = false then S else if 64 < x.size then S
  else { S with left := S.left - 1, cell := if S.left = 1 ∧ S.done = false then S.cell else fun j => if j = i.toNat then x else S.cell j }
set_option maxRecDepth 100000 in
set_option maxHeartbeats 1000000 in
theorem write_any (g : Nat) (S : Sto) (i : Int) (x : ByteArray) (hl : S.left ≤ 9223372036854775807) (w : World) (h : StoP w g S) :
    Calls Tryz.prog 24 #[ptr g, .int .i64 i, .string x] w fun e w' => e = .returned (.int .i64 (writeM S i x)) ∧ StoP w' g (wroteM S i x) ∧ Chg g w w' := by
  unfold writeM wroteM
  by_cases hi : inCell i = false
  · rw [if_pos hi, if_pos hi]
    unfold ptr
    go_enter Tryz.func24, Tryz.ntmps24
    go_wp2_with fail
    refine (isCell_any _ _).mono ?_
    rintro e w1 ⟨rfl, hw⟩
    subst hw
    go_wp2
    go_ret
    exact ⟨rfl, h, Chg.refl _ _⟩
  · rw [if_neg hi, if_neg hi]
    have hi : inCell i = true := by simpa using hi
    have hi' : 0 ≤ i ∧ i < 8 := by simpa [inCell] using hi
    obtain ⟨k, rfl⟩ : ∃ k : Nat, i = k := ⟨i.toNat, by omega⟩
    have hk : k < 8 := by omega
    rw [Int.toNat_natCast]
    by_cases hz : 64 < x.size
    · rw [if_pos hz, if_pos hz]
      unfold ptr
      go_enter Tryz.func24, Tryz.ntmps24
      go_wp2_with fail
      refine (isCell_any _ _).mono ?_
      rintro e w1 ⟨rfl, hw⟩
      subst hw
      go_wp2
      go_ret
      exact ⟨rfl, h, Chg.refl _ _⟩
    · rw [if_neg hz, if_neg hz]
      unfold ptr
      have hi2 := interrupted_any g S hl
      unfold ptr at hi2
      have HI : Hid _ := hi2
      clear hi2
      have main : ∀ (d c : Bool) (S2 : Sto) (r : Int), decide (S.left = 1) = d → S.done = c → r = (if d then 8 else 0) → S2 = (if d = true ∧ c = false then { S with left := S.left - 1 } else { S with left := S.left - 1, cell := fun j => if j = k then x else S.cell j }) →
          Calls Tryz.prog 24 #[.pointer (some ⟨g, 0, none⟩), .int .i64 (k : Int), .string x] w fun e w' => e = .returned (.int .i64 r) ∧ StoP w' g S2 ∧ Chg g w w' := by
        intro d c S2 r hd hc hr hS2
        rw [hd] at HI
        clear hl
        go_enter Tryz.func24, Tryz.ntmps24
        go_wp2_with fail
        refine (isCell_any _ _).mono ?_
        rintro e w1 ⟨rfl, hw⟩
        subst hw
        go_wp2_with fail
        refine (HI.out _ h).mono ?_
        rintro e w2 ⟨rfl, h2, c2⟩
        have d2 := StoP.doneAt h2
        have f2 := Row.frozen h2 k
        have k2 := StoP.cellAt h2 k hk
        have hS := StoP.setCell h2 k hk x
        dsimp only at d2 k2 hS
        rw [hc] at d2
        clear hd hc
        cases d <;> cases c <;> simp only [Bool.false_eq_true, if_false, if_true, and_self, and_false, and_true, reduceCtorEq] at hr hS2 <;> subst hr <;> go_wp2 <;> go_ret <;> subst hS2
        · exact ⟨rfl, hS, Chg.setCell c2 _ _⟩
        · exact ⟨rfl, hS, Chg.setCell c2 _ _⟩
        · exact ⟨rfl, h2, c2⟩
        · exact ⟨rfl, hS, Chg.setCell c2 _ _⟩
      refine main _ _ _ _ rfl rfl ?_ ?_
      · simp
      · by_cases h1 : S.left = 1 ∧ S.done = false
        · rw [if_pos h1, if_pos (by simpa using h1)]
        · rw [if_neg h1, if_neg (by simpa using h1)]
def interM (S : Sto) (k : Int) (d : Bool) : Sto := if k < 0 then S else { S with left := k.toNat, done := d }
set_option maxRecDepth 100000 in
set_option maxHeartbeats 1000000 in
theorem interrupt_any (g : Nat) (S : Sto) (k : Int) (d : Bool) (w : World) (h : StoP w g S) :
    Calls Tryz.prog 18 #[ptr g, .int .i64 k, .bool d] w fun e w' => e = .returned (.int .i64 (if k < 0 then 1 else 0)) ∧ StoP w' g (interM S k d) ∧ Chg g w w' := by
  unfold ptr interM
  by_cases hk : k < 0
  · rw [if_pos hk, if_pos hk]
    go_enter Tryz.func18, Tryz.ntmps18
    go_wp2
    go_ret
    exact ⟨rfl, h, Chg.refl _ _⟩
  · rw [if_neg hk, if_neg hk]
    obtain ⟨n, rfl⟩ : ∃ n : Nat, k = n := ⟨k.toNat, by omega⟩
    have c8 := StoP.leftAt h
    have c9 := StoP.doneAt h
    have f8 := Row.frozen h 8
    have f9 := Row.frozen h 9
    go_enter Tryz.func18, Tryz.ntmps18
    go_wp2
    go_ret
    exact ⟨rfl, StoP.setDone (StoP.setLeft h n) d, Chg.setCell (Chg.setCell (Chg.refl _ _) _ _) _ _⟩

structure RSt where
  writes : Nat
  due : Nat
  user : Nat
  tables : Nat
def refV (gc : Nat) (R : RSt) (d : Bool) (j : Nat) : Value :=
  if j = 0 then .slice (some ⟨gc, 0, none⟩) 8 8 else if j = 1 then .int .i64 R.writes else if j = 2 then .int .i64 R.due else if j = 3 then .bool d else if j = 4 then .int .i64 R.user else .int .i64 R.tables
structure StoR (w : World) (g gc : Nat) (S : Sto) (R : RSt) : Prop where
  r : Row w g 6 168 (refV gc R S.done)
  c : Row w gc 8 9 (fun j => .string (S.cell j))
  left : S.left = R.due - R.writes
theorem StoR.ne {w : World} {g gc : Nat} {S : Sto} {R : RSt} (h : StoR w g gc S R) : g ≠ gc := Row.ne h.r h.c (by decide)
theorem StoR.fr {w w' : World} {L : List Nat} {g gc : Nat} {S : Sto} {R : RSt} (h : StoR w g gc S R) (hf : Fr L w w') (h1 : g ∉ L) (h2 : gc ∉ L) : StoR w' g gc S R := ⟨h.r.fr hf h1, h.c.fr hf h2, h.left⟩
theorem StoR.at0 {w : World} {g gc : Nat} {S : Sto} {R : RSt} (h : StoR w g gc S R) : w.cell? ⟨g, 0, none⟩ = some (.slice (some ⟨gc, 0, none⟩) 8 8) := by rw [Row.cell h.r 0 (by omega)]; rfl
theorem StoR.at1 {w : World} {g gc : Nat} {S : Sto} {R : RSt} (h : StoR w g gc S R) : w.cell? ⟨g, 1, none⟩ = some (.int .i64 R.writes) := by rw [Row.cell h.r 1 (by omega)]; rfl
theorem StoR.at2 {w : World} {g gc : Nat} {S : Sto} {R : RSt} (h : StoR w g gc S R) : w.cell? ⟨g, 2, none⟩ = some (.int .i64 R.due) := by rw [Row.cell h.r 2 (by omega)]; rfl
theorem StoR.at3 {w : World} {g gc : Nat} {S : Sto} {R : RSt} (h : StoR w g gc S R) : w.cell? ⟨g, 3, none⟩ = some (.bool S.done) := by rw [Row.cell h.r 3 (by omega)]; rfl
theorem StoR.at4 {w : World} {g gc : Nat} {S : Sto} {R : RSt} (h : StoR w g gc S R) : w.cell? ⟨g, 4, none⟩ = some (.int .i64 R.user) := by rw [Row.cell h.r 4 (by omega)]; rfl
theorem StoR.at5 {w : World} {g gc : Nat} {S : Sto} {R : RSt} (h : StoR w g gc S R) : w.cell? ⟨g, 5, none⟩ = some (.int .i64 R.tables) := by rw [Row.cell h.r 5 (by omega)]; rfl
def newR : RSt := ⟨0, 0, 0, 0⟩
theorem made9 (w : World) : (Instr.makeSlice 46 (.int .i64 8) (.int .i64 8)).run Tryz.prog w = .ok (.slice (some ⟨w.heap.size, 0, none⟩) 8 8) (w.alloc (.cells (arr 8 fun _ => .string ⟨#[]⟩) 9)) := by
  have := run_make_row' (P := Tryz.prog) 46 9 (.string ⟨#[]⟩) 16 Tryz.underlying46 (by kernel_rfl) rfl .i64 .i64 8 (by omega) (by omega) w
  refine this.trans ?_
  kernel_rfl
set_option maxRecDepth 100000 in
set_option maxHeartbeats 1000000 in
theorem refNew_any (w : World) : Calls Tryz.prog 60 #[] w fun e w' => e = .returned (ptr (w.heap.size + 1)) ∧ StoR w' (w.heap.size + 1) w.heap.size newSto newR ∧ Below w.heap.size w w' := by
  have hm := made9 w
  go_enter Tryz.func60, Tryz.ntmps60
  go_wp2
  go_ret
  refine ⟨rfl, ⟨?_, ?_, rfl⟩, ((Below.refl _ _).alloc (Nat.le_refl _) _).alloc (by simp) _⟩
  · exact Row.lit _ _ _ _ _ _ (by simp) rfl
  · exact Row.alloc (Row.new w 8 9 _ _ rfl) _
set_option maxRecDepth 100000 in
set_option maxHeartbeats 1000000 in
theorem refCell_any (g gc : Nat) (S : Sto) (R : RSt) (i : Int) (w : World) (h : StoR w g gc S R) :
    Calls Tryz.prog 61 #[ptr g, .int .i64 i] w fun e w' => e = .returned (.tuple #[.string (cellM S i).1, .int .i64 (cellM S i).2]) ∧ w' = w := by
  unfold ptr cellM inCell
  by_cases hi : i < 0
  · rw [if_neg (by simp; omega)]
    go_enter Tryz.func61, Tryz.ntmps61
    go_wp2
    go_ret2
    exact ⟨rfl, rfl⟩
  · by_cases h8 : 8 ≤ i
    · rw [if_neg (by simp; omega)]
      go_enter Tryz.func61, Tryz.ntmps61
      go_wp2
      go_ret2
      exact ⟨rfl, rfl⟩
    · rw [if_pos (by simp; omega)]
      obtain ⟨k, rfl⟩ : ∃ k : Nat, i = k := ⟨i.toNat, by omega⟩
      have hk : k < 8 := by omega
      have c := Row.cell h.c k hk
      have a0 := h.at0
      rw [Int.toNat_natCast]
      go_enter Tryz.func61, Tryz.ntmps61
      go_wp2
      go_ret2
      exact ⟨rfl, rfl⟩
end Go.Proofs.YtgalgjmhdbncbaaGreat
