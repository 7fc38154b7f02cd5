import Derived.Test.YtgalgjmhdbncbaaA6
import Derived.Deep.OwnRows
namespace Go.Proofs.Ytgalgjmhdbncbaa
open Go.RowKit

def zs (n : Nat) : ByteArray := str n fun _ => 0
theorem info5 : (Try.prog.info? 5).map (fun i => (i.zero, i.size, i.bytes)) = some (some (.int .u8 0), 1, 1) := by kernel_rfl
theorem made8 (n : Nat) : madeCells #[Value.int .u8 0] n = arr n z8 := by
  apply Array.ext_getElem?
  intro i
  by_cases h : i < n
  · rw [arr_get _ _ _ h]; simp [madeCells, h, Nat.mod_one, z8, by8]
  · simp [madeCells, arr, h]
theorem mk8 (n : Nat) (h : n ≤ 281474976710656) (w : World) : (Instr.makeSlice 31 (.int .i64 (n : Int)) (.int .i64 (n : Int))).run Try.prog w = .ok (.slice (some ⟨w.heap.size, 0, none⟩) n n) (w.alloc (.cells (arr n z8) 5)) := by
  have := run_make_row' (P := Try.prog) 31 5 (.int .u8 0) 1 Try.underlying31 info5 rfl .i64 .i64 n (by omega) (by omega) w
  rw [made8] at this
  exact this
theorem convZ (n : Nat) (w : World) : (convert 31 9 (.slice (some ⟨w.heap.size, 0, none⟩) n n)).run Try.prog (w.alloc (.cells (arr n z8) 5)) = .ok (.string (zs n)) (w.alloc (.cells (arr n z8) 5)) :=
  conv8 _ _ n n 5 (fun _ => 0) n (Row.new _ _ _ _ _ rfl) (Nat.le_refl _)

/-- a slice of bytes made a text, by the block that it lies in -/
def Cv8 (v : Value) : Sem Value := convert 31 9 v
theorem cv_wrap (v : Value) : convert 31 9 v = Cv8 v := rfl
def cvOrig (P : Program) (g n c : Nat) (w : World) : Result Value := Sem.run P (convert 31 9 (.slice (some ⟨g, 0, none⟩) n c)) w
def isBytes (cs : Array Value) (n : Nat) : Bool := cs.size = n && cs.all fun | .int .u8 x => decide (0 ≤ x ∧ x < 256) | _ => false
def cvRes (o : Option Obj) (n : Nat) (w : World) (r : Result Value) : Result Value :=
  match o with
  | some (.cells cs _ fr) => if fr = (0, 0) ∧ isBytes cs n = true then .ok (.string (str n fun j => match cs[j]? with | some (.int .u8 x) => UInt8.ofNat x.toNat | _ => 0)) w else r
  | _ => r
theorem isBytes_arr (n : Nat) (cs : Array Value) (h : isBytes cs n = true) : cs = arr n (by8 fun j => match cs[j]? with | some (.int .u8 x) => UInt8.ofNat x.toNat | _ => 0) := by
  simp only [isBytes, Bool.and_eq_true, decide_eq_true_eq] at h
  obtain ⟨h1, h2⟩ := h
  apply Array.ext_getElem?
  intro i
  by_cases hi : i < n
  · rw [arr_get _ _ _ hi]
    have hi' : i < cs.size := by omega
    have h3 := (Array.all_eq_true.1 h2) i hi'
    rw [Array.getElem?_eq_getElem hi']
    simp only [by8, Array.getElem?_eq_getElem hi']
    revert h3
    generalize cs[i] = v
    intro h3
    split at h3
    · simp only [decide_eq_true_eq] at h3
      rename_i x
      have : ((UInt8.ofNat x.toNat).toNat : Int) = x := by
        rw [UInt8.toNat_ofNat']; omega
      rw [this]
    · cases h3
  · simp [arr, hi]; omega
theorem run_cv (g n c : Nat) (w : World) : Sem.run Try.prog (Cv8 (.slice (some ⟨g, 0, none⟩) n c)) w = cvRes (blk w g) n w (cvOrig Try.prog g n c w) := by
  unfold cvRes blk
  split
  · rename_i cs t fr h
    split
    · rename_i hc
      obtain ⟨rfl, hb⟩ := hc
      have e := isBytes_arr n cs hb
      have hr : Row w g n t (by8 fun j => match cs[j]? with | some (.int .u8 x) => UInt8.ofNat x.toNat | _ => 0) := by
        unfold Row; rw [← e]; exact h
      exact conv8 w g n c t _ n hr (Nat.le_refl _)
    · rfl
  · rfl
theorem cvRes_row (n : Nat) (t : TypeId) (f : Nat → UInt8) (w : World) (r : Result Value) : cvRes (some (.cells (arr n (by8 f)) t (0, 0))) n w r = .ok (.string (str n f)) w := by
  have hb : isBytes (arr n (by8 f)) n = true := by
    unfold isBytes
    rw [Bool.and_eq_true]
    refine ⟨by simp [arr_size], ?_⟩
    rw [Array.all_eq_true]
    intro i hi
    have hi' : i < n := by simpa [arr_size] using hi
    have : (arr n (by8 f))[i] = by8 f i := by
      have := arr_get n (by8 f) i hi'
      rw [Array.getElem?_eq_getElem hi] at this
      exact Option.some.inj this
    rw [this]
    have := (f i).toNat_lt
    simp [by8]
    omega
  unfold cvRes
  simp only [hb, and_self, if_true]
  congr 2
  apply str_congr
  intro j hj
  rw [arr_get _ _ _ hj]
  simp [by8]
theorem cvRes_z (n : Nat) (t : TypeId) (w : World) (r : Result Value) : cvRes (some (.cells (arr n z8) t (0, 0))) n w r = .ok (.string (zs n)) w := cvRes_row n t _ w r
theorem pick_neg (c : Int) (n : Nat) (hn : 0 < n) (hc : c < 0) : ∃ r : Nat, r < n ∧ -((c + 1).tmod n) = (r : Int) := by
  rw [← Int.neg_tmod, Int.tmod_eq_emod_of_nonneg (by omega)]
  have h1 := Int.emod_nonneg (-(c + 1)) (b := (n : Int)) (by omega)
  have h2 := Int.emod_lt_of_pos (-(c + 1)) (b := (n : Int)) (by omega)
  exact ⟨(-(c + 1) % (n : Int)).toNat, by omega, by omega⟩
theorem pick_pos (c : Int) (n : Nat) (hn : 0 < n) : ∃ r : Nat, r < n ∧ c % (n : Int) = (r : Int) := by
  have h1 := Int.emod_nonneg c (b := (n : Int)) (by omega)
  have h2 := Int.emod_lt_of_pos c (b := (n : Int)) (by omega)
  exact ⟨(c % (n : Int)).toNat, by omega, by omega⟩
set_option maxHeartbeats 400000 in
theorem pick_any (c : Int) (n : Nat) (h1 : -9223372036854775808 ≤ c) (h2 : c ≤ 9223372036854775807) (hn : 0 < n) (hn2 : n ≤ 1000000) (w : World) :
    Calls Try.prog 18 #[.int .i64 c, .int .i64 n] w fun e w' => (∃ r : Nat, r < n ∧ e = .returned (.int .i64 r)) ∧ w' = w := by
  by_cases hc : c < 0
  · obtain ⟨r, hr, he⟩ := pick_neg c n hn hc
    have HE : Hid _ := he
    clear he
    go_enter Try.func18, Try.ntmps18
    go_wp2
    go_ret
    exact ⟨⟨r, hr, by rw [← HE.out]; rfl⟩, rfl⟩
  · obtain ⟨r, hr, he⟩ := pick_pos c n hn
    have HE : Hid _ := he
    clear he
    go_enter Try.func18, Try.ntmps18
    go_wp2
    go_ret
    exact ⟨⟨r, hr, by rw [← HE.out]; rfl⟩, rfl⟩

theorem bytes_ext {a b : ByteArray} (hs : a.size = b.size) (h : ∀ j, j < a.size → sf a j = sf b j) : a = b := by
  rw [← str_sf a a.size rfl, ← str_sf b a.size hs.symm]
  exact str_congr h
theorem sf_append (a b : ByteArray) (j : Nat) : sf (a ++ b) j = if j < a.size then sf a j else sf b (j - a.size) := by
  have : (a ++ b).data = a.data ++ b.data := by simp
  simp only [sf, this]
  by_cases h : j < a.size
  · simp [Array.getElem?_append, h]
  · simp [Array.getElem?_append, h]
theorem sf_past (a : ByteArray) (j : Nat) (h : a.size ≤ j) : sf a j = 0 := by
  have h' : a.data.size ≤ j := h
  simp [sf, Array.getElem?_eq_none h']
theorem sf_zs (n j : Nat) : sf (zs n) j = 0 := by
  by_cases h : j < n
  · exact sf_str _ _ _ h
  · exact sf_past _ _ (by rw [zs, str_size]; omega)
theorem just_short (s : ByteArray) (n : Nat) (h : s.size ≤ n) : s ++ zs (n - s.size) = str n (sf s) := by
  apply bytes_ext
  · rw [str_size, ByteArray.size_append, zs, str_size]; omega
  · intro j hj
    rw [ByteArray.size_append, zs, str_size] at hj
    rw [sf_append, sf_str _ _ _ (by omega)]
    split
    · rfl
    · rw [sf_zs, sf_past _ _ (by omega)]
theorem just_long (s : ByteArray) (n : Nat) (h : n < s.size) : s.extract 0 n ++ zs 0 = str n (sf s) := by
  apply bytes_ext
  · rw [str_size, ByteArray.size_append, zs, str_size, cut_size _ _ _ (by omega)]; omega
  · intro j hj
    rw [ByteArray.size_append, zs, str_size, cut_size _ _ _ (by omega)] at hj
    rw [sf_append, sf_str _ _ _ (by omega), cut_size _ _ _ (by omega), if_pos (by omega), sf_cut _ _ _ _ (by omega) (by omega), Nat.zero_add]

theorem zs_size (n : Nat) : (zs n).size = n := str_size _ _
set_option maxHeartbeats 400000 in
theorem just_any (s : ByteArray) (n : Nat) (hn : n ≤ 1000000) (hs : s.size ≤ maxLen) (w : World) :
    Calls Try.prog 16 #[.string s, .int .i64 n] w fun e w' => e = .returned (.string (str n (sf s))) ∧ Below w.heap.size w w' := by
  unfold maxLen at hs
  by_cases hlt : n < s.size
  · have hm : ∀ w, (Instr.makeSlice 31 (.int .i64 0) (.int .i64 0)).run Try.prog w = .ok (.slice (some ⟨w.heap.size, 0, none⟩) 0 0) (w.alloc (.cells (arr 0 z8) 5)) := fun w => mk8 0 (by omega) w
    have hcv := convZ 0
    have HL : Hid _ := just_long s n hlt
    have hsz := cut_size s 0 n (by omega)
    have hz := zs_size 0
    go_enter Try.func16, Try.ntmps16
    go_wp2
    go_ret
    exact ⟨by rw [← HL.out]; rfl, (Below.refl _ _).alloc (Nat.le_refl _) _⟩
  · have hm := mk8 (n - s.size) (by omega)
    have ec : ((n - s.size : Nat) : Int) = (n : Int) - s.size := by omega
    rw [ec] at hm
    have hcv := convZ (n - s.size)
    have HL : Hid _ := just_short s n (by omega)
    have hz := zs_size (n - s.size)
    clear ec
    go_enter Try.func16, Try.ntmps16
    go_wp2
    go_ret
    exact ⟨by rw [← HL.out]; rfl, (Below.refl _ _).alloc (Nat.le_refl _) _⟩

theorem str_get (n : Nat) (f : Nat → UInt8) (k : Nat) (h : k < (str n f).size) : (str n f)[k] = f k := by
  show (str n f).data[k]'h = f k
  simp [str]
set_option maxHeartbeats 400000 in
/-- two texts of one length, xored -/
theorem kxor_any (n : Nat) (f g : Nat → UInt8) (hn : n ≤ 1000000) (w : World) :
    Calls Try.prog 20 #[.string (str n f), .string (str n g)] w fun e w' => e = .returned (.string (str n fun j => f j ^^^ g j)) ∧ Below w.heap.size w w' := by
  have hm := mk8 n (by omega)
  have z1 := str_size n f
  have z2 := str_size n g
  go_enter Try.func20, Try.ntmps20
  go_wp2
  go_loopw [7] (fun i wr => ∃ k : Nat, k ≤ n ∧ i = .int .i64 k ∧ Row wr w.heap.size n 5 (by8 fun j => if j < k then f j ^^^ g j else 0) ∧ Below w.heap.size w wr) (fun i _ => n - (intOf i).toNat)
  case atStart =>
    refine ⟨0, by omega, rfl, ?_, ?_⟩
    · refine Row.congr (V := z8) (Row.new _ _ _ _ _ rfl) ?_
      intro j hj
      simp [z8, by8]
    · exact (Below.refl _ _).alloc (Nat.le_refl _) _
  case round =>
    obtain ⟨k, hk, rfl, r0, hB⟩ := hrel
    by_cases hlt : k < n
    · have c0 := r0.cell k hlt
      have f0 := r0.frozen k
      go_wp2
      go_region
      go_wp2
      rw [str_get, str_get, u8_xor_b]
      refine ⟨⟨k + 1, by omega, by go_num, ((r0.set k _).congr ?_).drew, (hB.setCell (by simp) _).drew⟩, by simp [intOf]; omega⟩
      intro j hj
      by_cases hjk : j = k
      · subst hjk; simp [by8]
      · simp [by8, hjk, show (j < k + 1) = (j < k) from by apply propext; omega]
    · have hkn : k = n := by omega
      subst hkn
      have r1 : Row wr w.heap.size k 5 (by8 fun j => f j ^^^ g j) := r0.congr (fun j hj => by simp [by8, hj])
      have hcv := conv8 wr w.heap.size k k 5 _ k r1 (Nat.le_refl _)
      go_wp2
      go_ret
      exact ⟨rfl, hB⟩
end Go.Proofs.Ytgalgjmhdbncbaa
