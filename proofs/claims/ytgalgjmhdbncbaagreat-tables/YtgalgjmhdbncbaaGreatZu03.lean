import Derived.Test.YtgalgjmhdbncbaaGreatZu02
import Derived.Deep.OwnRows
namespace Go.Proofs.YtgalgjmhdbncbaaGreat
open Go.RowKit

def zs (n : Nat) : ByteArray := str n fun _ => 0
theorem info5 : (Tryz.prog.info? 5).map (fun i => (i.zero, i.size, i.bytes)) = some (some (.int .u8 0), 1, 1) := by kernel_rfl
theorem made8 (n : Nat) : madeCells #[Value.int .u8 0] n = arr n z8 := by
  apply Array.ext_getElem?
  intro i
  by_cases h : i < n
  · rw [arr_get _ _ _ h]; simp [madeCells, h, Nat.mod_one, z8, by8]
  · simp [madeCells, arr, h]
theorem mk8 (n : Nat) (h : n ≤ 281474976710656) (w : World) : (Instr.makeSlice 105 (.int .i64 (n : Int)) (.int .i64 (n : Int))).run Tryz.prog w = .ok (.slice (some ⟨w.heap.size, 0, none⟩) n n) (w.alloc (.cells (arr n z8) 5)) := by
  have := run_make_row' (P := Tryz.prog) 105 5 (.int .u8 0) 1 Tryz.underlying105 info5 rfl .i64 .i64 n (by omega) (by omega) w
  rw [made8] at this
  exact this
theorem convZ (n : Nat) (w : World) : (convert 105 9 (.slice (some ⟨w.heap.size, 0, none⟩) n n)).run Tryz.prog (w.alloc (.cells (arr n z8) 5)) = .ok (.string (zs n)) (w.alloc (.cells (arr n z8) 5)) :=
  conv8 _ _ n n 5 (fun _ => 0) n (Row.new _ _ _ _ _ rfl) (Nat.le_refl _)

def Cv8 (v : Value) : Sem Value := convert 105 9 v
theorem cv_wrap (v : Value) : convert 105 9 v = Cv8 v := rfl
def cvOrig (P : Program) (g n c : Nat) (w : World) : Result Value := Sem.run P (convert 105 9 (.slice (some ⟨g, 0, none⟩) n c)) w
def isBytes (cs : Array Value) (n : Nat) : Bool := cs.size = n && cs.all fun | .int .u8 x => decide (0 ≤ x ∧ x < 256) | _ => false
def cvRes (o : Option Obj) (n : Nat) (w : World) (r : Result Value) : Result Value :=
  match o with
  | some (.cells cs _ fr) => if fr = (0, 0) ∧ isBytes cs n = true then .ok (.string (str n fun j => match cs[j]? with | some (.int .u8 x) => UInt8.ofNat x.toNat | _ => 0)) w else r
  | _ => r
theorem isBytes_arr (n : Nat) (cs : Array Value) (h : isBytes cs n = true) : cs = arr n (by8 fun j => match cs[j]? with | some (.int .u8 x) => UInt8.ofNat x.toNat | _ => 0) := by
  simp only [isBytes, Bool.and_eq_true, decide_eq_true_eq] at h
  obtain ⟨h1, h2⟩ := h
  apply Array.ext_getElem?
  intro i
  by_cases hi : i < n
  · rw [arr_get _ _ _ hi]
    have hi' : i < cs.size := by omega
    have h3 := (Array.all_eq_true.1 h2) i hi'
    rw [Array.getElem?_eq_getElem hi']
    simp only [by8, Array.getElem?_eq_getElem hi']
    revert h3
    generalize cs[i] = v
    intro h3
    split at h3
    · simp only [decide_eq_true_eq] at h3
      rename_i x
      have : ((UInt8.ofNat x.toNat).toNat : Int) = x := by
        rw [UInt8.toNat_ofNat']; omega
      rw [this]
    · cases h3
  · simp [arr, hi]; omega
theorem run_cv (g n c : Nat) (w : World) : Sem.run Tryz.prog (Cv8 (.slice (some ⟨g, 0, none⟩) n c)) w = cvRes (blk w g) n w (cvOrig Tryz.prog g n c w) := by
  unfold cvRes blk
  split
  · rename_i cs t fr h
    split
    · rename_i hc
      obtain ⟨rfl, hb⟩ := hc
      have e := isBytes_arr n cs hb
      have hr : Row w g n t (by8 fun j => match cs[j]? with | some (.int .u8 x) => UInt8.ofNat x.toNat | _ => 0) := by
        unfold Row; rw [← e]; exact h
      exact conv8 w g n c t _ n hr (Nat.le_refl _)
    · rfl
  · rfl
theorem cvRes_row (n : Nat) (t : TypeId) (f : Nat → UInt8) (w : World) (r : Result Value) : cvRes (some (.cells (arr n (by8 f)) t (0, 0))) n w r = .ok (.string (str n f)) w := by
  have hb : isBytes (arr n (by8 f)) n = true := by
    unfold isBytes
    rw [Bool.and_eq_true]
    refine ⟨by simp [arr_size], ?_⟩
    rw [Array.all_eq_true]
    intro i hi
    have hi' : i < n := by simpa [arr_size] using hi
    have : (arr n (by8 f))[i] = by8 f i := by
      have := arr_get n (by8 f) i hi'
      rw [Array.getElem?_eq_getElem hi] at this
      exact Option.some.inj this
    rw [this]
    have := (f i).toNat_lt
    simp [by8]
    omega
  unfold cvRes
  simp only [hb, and_self, if_true]
  congr 2
  apply str_congr
  intro j hj
  rw [arr_get _ _ _ hj]
  simp [by8]
theorem cvRes_z (n : Nat) (t : TypeId) (w : World) (r : Result Value) : cvRes (some (.cells (arr n z8) t (0, 0))) n w r = .ok (.string (zs n)) w := cvRes_row n t _ w r
theorem pick_neg (c : Int) (n : Nat) (hn : 0 < n) (hc : c < 0) : ∃ r : Nat, r < n ∧ -((c + 1).tmod n) = (r : Int) := by
  rw [← Int.neg_tmod, Int.tmod_eq_emod_of_nonneg (by omega)]
  have h1 := Int.emod_nonneg (-(c + 1)) (b := (n : Int)) (by omega)
  have h2 := Int.emod_lt_of_pos (-(c + 1)) (b := (n : Int)) (by omega)
  exact ⟨(-(c + 1) % (n : Int)).toNat, by omega, by omega⟩
theorem pick_pos (c : Int) (n : Nat) (hn : 0 < n) : ∃ r : Nat, r < n ∧ c % (n : Int) = (r : Int) := by
  have h1 := Int.emod_nonneg c (b := (n : Int)) (by omega)
  have h2 := Int.emod_lt_of_pos c (b := (n : Int)) (by omega)
  exact ⟨(c % (n : Int)).toNat, by omega, by omega⟩
set_option maxHeartbeats 400000 in
theorem pick_any (c : Int) (n : Nat) (h1 : -9223372036854775808 ≤ c) (h2 : c ≤ 9223372036854775807) (hn : 0 < n) (hn2 : n ≤ 1000000) (w : World) :
    Calls Tryz.prog 17 #[.int .i64 c, .int .i64 n] w fun e w' => (∃ r : Nat, r < n ∧ e = .returned (.int .i64 r)) ∧ w' = w := by
  by_cases hc : c < 0
  · obtain ⟨r, hr, he⟩ := pick_neg c n hn hc
    have HE : Hid _ := he
    clear he
    go_enter Tryz.func17, Tryz.ntmps17
    go_wp2
    go_ret
    exact ⟨⟨r, hr, by rw [← HE.out]; rfl⟩, rfl⟩
  · obtain ⟨r, hr, he⟩ := pick_pos c n hn
    have HE : Hid _ := he
    clear he
    go_enter Tryz.func17, Tryz.ntmps17
    go_wp2
    go_ret
    exact ⟨⟨r, hr, by rw [← HE.out]; rfl⟩, rfl⟩

theorem bytes_ext {a b : ByteArray} (hs : a.size = b.size) (h : ∀ j, j < a.size → sf a j = sf b j) : a = b := by
  rw [← str_sf a a.size rfl, ← str_sf b a.size hs.symm]
  exact str_congr h
theorem sf_append (a b : ByteArray) (j : Nat) : sf (a ++ b) j = if j < a.size then sf a j else sf b (j - a.size) := by
  have : (a ++ b).data = a.data ++ b.data := by simp
  simp only [sf, this]
  by_cases h : j < a.size
  · simp [Array.getElem?_append, h]
  · simp [Array.getElem?_append, h]
theorem sf_past (a : ByteArray) (j : Nat) (h : a.size ≤ j) : sf a j = 0 := by
  have h' : a.data.size ≤ j := h
  simp [sf, Array.getElem?_eq_none h']
theorem sf_zs (n j : Nat) : sf (zs n) j = 0 := by
  by_cases h : j < n
  · exact sf_str _ _ _ h
  · exact sf_past _ _ (by rw [zs, str_size]; omega)
theorem just_short (s : ByteArray) (n : Nat) (h : s.size ≤ n) : s ++ zs (n - s.size) = str n (sf s) := by
  apply bytes_ext
  · rw [str_size, ByteArray.size_append, zs, str_size]; omega
  · intro j hj
    rw [ByteArray.size_append, zs, str_size] at hj
    rw [sf_append, sf_str _ _ _ (by omega)]
    split
    · rfl
    · rw [sf_zs, sf_past _ _ (by omega)]
theorem just_long (s : ByteArray) (n : Nat) (h : n < s.size) : s.extract 0 n ++ zs 0 = str n (sf s) := by
  apply bytes_ext
  · rw [str_size, ByteArray.size_append, zs, str_size, cut_size _ _ _ (by omega)]; omega
  · intro j hj
    rw [ByteArray.size_append, zs, str_size, cut_size _ _ _ (by omega)] at hj
    rw [sf_append, sf_str _ _ _ (by omega), cut_size _ _ _ (by omega), if_pos (by omega), sf_cut _ _ _ _ (by omega) (by omega), Nat.zero_add]

theorem zs_size (n : Nat) : (zs n).size = n := str_size _ _
set_option maxHeartbeats 400000 in
theorem just_any (s : ByteArray) (n : Nat) (hn : n ≤ 1000000) (hs : s.size ≤ maxLen) (w : World) :
    Calls Tryz.prog 83 #[.string s, .int .i64 n] w fun e w' => e = .returned (.string (str n (sf s))) ∧ Below w.heap.size w w' := by
  unfold maxLen at hs
  by_cases hlt : n < s.size
  · have hm : ∀ w, (Instr.makeSlice 105 (.int .i64 0) (.int .i64 0)).run Tryz.prog w = .ok (.slice (some ⟨w.heap.size, 0, none⟩) 0 0) (w.alloc (.cells (arr 0 z8) 5)) := fun w => mk8 0 (by omega) w
    have hcv := convZ 0
    have HL : Hid _ := just_long s n hlt
    have hsz := cut_size s 0 n (by omega)
    have hz := zs_size 0
    go_enter Tryz.func83, Tryz.ntmps83
    go_wp2
    go_ret
    exact ⟨by rw [← HL.out]; rfl, (Below.refl _ _).alloc (Nat.le_refl _) _⟩
  · have hm := mk8 (n - s.size) (by omega)
    have ec : ((n - s.size : Nat) : Int) = (n : Int) - s.size := by omega
    rw [ec] at hm
    have hcv := convZ (n - s.size)
    have HL : Hid _ := just_short s n (by omega)
    have hz := zs_size (n - s.size)
    clear ec
    go_enter Tryz.func83, Tryz.ntmps83
    go_wp2
    go_ret
    exact ⟨by rw [← HL.out]; rfl, (Below.refl _ _).alloc (Nat.le_refl _) _⟩

theorem str_get (n : Nat) (f : Nat → UInt8) (k : Nat) (h : k < (str n f).size) : (str n f)[k] = f k := by
  show (str n f).data[k]'h = f k
  simp [str]
end Go.Proofs.YtgalgjmhdbncbaaGreat
namespace Go.Proofs.YtgalgjmhdbncbaaGreat

def numF (v n : Nat) (j : Nat) : UInt8 := UInt8.ofNat (v / 256 ^ (n - 1 - j))
def numT (v n : Nat) : ByteArray := str n (numF v n)
def up16 (n : Nat) : Nat := (n + 15) / 16 * 16
def padT (s : ByteArray) : ByteArray := str (up16 s.size) (sf s)
def valF (f : Nat → UInt8) (at' : Nat) : Nat → Nat
  | 0 => 0
  | n + 1 => valF f at' n * 256 + (f (at' + n)).toNat
theorem up16_le (n : Nat) : n ≤ up16 n := by unfold up16; omega
theorem up16_mod (n : Nat) : up16 n % 16 = 0 := by unfold up16; omega
theorem up16_up (n : Nat) : up16 n < n + 16 := by unfold up16; omega
theorem padT_size (s : ByteArray) : (padT s).size = up16 s.size := str_size _ _
theorem numT_size (v n : Nat) : (numT v n).size = n := str_size _ _
end Go.Proofs.YtgalgjmhdbncbaaGreat
namespace Go.Proofs.YtgalgjmhdbncbaaGreat
open Go.RowKit

theorem Chg.refl (g : Nat) (w : World) : Chg g w w := ⟨rfl, rfl, rfl, rfl, fun _ _ => rfl⟩
theorem Chg.setCell {g : Nat} {w w' : World} (h : Chg g w w') (o : Nat) (v : Value) : Chg g w (w'.setCell ⟨g, o, none⟩ v) :=
  ⟨h.os, h.tape, h.output, by rw [← h.size]; simp, fun k hk => by rw [heap_skip _ _ _ _ _ hk]; exact h.block k hk⟩
theorem Chg.trans {g : Nat} {a b c : World} (h : Chg g a b) (h' : Chg g b c) : Chg g a c :=
  ⟨h'.os.trans h.os, h'.tape.trans h.tape, h'.output.trans h.output, h'.size.trans h.size, fun k hk => (h'.block k hk).trans (h.block k hk)⟩

def putF (f : Nat → UInt8) (off n v j : Nat) : UInt8 := if off ≤ j ∧ j < off + n then numF v n (j - off) else f j
theorem low8n (u : Nat) : ((u : Int) % (256 : Int)) = (((UInt8.ofNat u).toNat : Nat) : Int) := by
  rw [UInt8.toNat_ofNat']; omega

set_option maxHeartbeats 400000 in
theorem put_any (g off n cap m : Nat) (t : TypeId) (f : Nat → UInt8) (v : Nat) (hv : v < 18446744073709551616) (hm : off + n ≤ m) (hn : n ≤ 1000) (w : World) (hr : Row w g m t (by8 f)) :
    Calls Tryz.prog 112 #[.slice (some ⟨g, off, none⟩) n cap, .int .u64 v] w fun e w' => e = .returned (.tuple #[]) ∧ Chg g w w' ∧ Row w' g m t (by8 (putF f off n v)) := by
  go_enter Tryz.func112, Tryz.ntmps112
  go_wp2
  go_loopw [1, 4] (fun x i wr => ∃ q u : Nat, Hid (u = v / 256 ^ (n - q)) ∧ u < 18446744073709551616 ∧ q ≤ n ∧ x = .int .u64 u ∧ i = .int .i64 ((q : Int) - 1) ∧ Chg g w wr ∧ Row wr g m t (by8 fun j => if off + q ≤ j ∧ j < off + n then numF v n (j - off) else f j)) (fun _ i _ => (intOf i + 1).toNat)
  case atStart =>
    refine ⟨n, v, by show v = v / 256 ^ (n - n); simp, hv, Nat.le_refl _, rfl, by go_num, Chg.refl _ _, hr.congr fun j hj => ?_⟩
    simp only [by8]
    rw [if_neg (by omega)]
  case round =>
    clear hr
    obtain ⟨q, u, HU, hu, hq, rfl, rfl, hC, r0⟩ := hrel
    match q, hq, HU, r0 with
    | 0, hq, HU, r0 =>
      go_wp2
      go_end0
      refine ⟨rfl, hC, r0.congr fun j hj => ?_⟩
      simp only [by8, putF, Nat.add_zero]
    | p + 1, hq, HU, r0 =>
      rw [show (((p + 1 : Nat) : Int) - 1) = (p : Int) by omega]
      have c0 := r0.cell (off + p) (by omega)
      have f0 := r0.frozen (off + p)
      have HL : Hid _ := low8n u
      have HQ : Hid (u / 256 = v / 256 ^ (n - p)) := by
        show u / 256 = _
        rw [HU.out, Nat.div_div_eq_div_mul, show n - p = n - (p + 1) + 1 by omega, Nat.pow_succ]
      have hqu : u / 256 < 18446744073709551616 := by omega
      go_wp2
      rw [HL.out]
      go_roundw
      case rel =>
        refine ⟨p, u / 256, HQ, hqu, by omega, by go_num, by go_num, hC.setCell _ _, (r0.set (off + p) _).congr fun j hj => ?_⟩
        by_cases hj : j = off + p
        · subst hj
          simp only [by8, if_true]
          rw [if_pos (by omega)]
          unfold numF
          rw [show n - 1 - (off + p - off) = n - (p + 1) by omega, ← HU.out]
        · simp only [by8, hj, if_false]
          by_cases h2 : off + (p + 1) ≤ j ∧ j < off + n
          · rw [if_pos h2, if_pos (by omega)]
          · rw [if_neg h2, if_neg (by omega)]
      case measure => simp [intOf]

theorem valF_lt (f : Nat → UInt8) (a : Nat) : ∀ n, valF f a n < 256 ^ n
  | 0 => by simp [valF]
  | n + 1 => by
    have := valF_lt f a n
    have := (f (a + n)).toNat_lt
    simp only [valF, Nat.pow_succ]
    omega
theorem or_byte (x : Nat) (b : UInt8) (hx : x < 72057594037927936) : bits .or .u64 ((x : Int) * 256) (b.toNat : Int) = ((x * 256 + b.toNat : Nat) : Int) := by
  have hb := b.toNat_lt
  rw [show (x : Int) * 256 = ((x * 256 : Nat) : Int) by omega, u64_or_nat _ _ (by omega) (by omega)]
  congr 1
  have := Nat.two_pow_add_eq_or_of_lt (i := 8) (b := b.toNat) (by omega) x
  rw [Nat.mul_comm x 256, show (256 : Nat) = 2 ^ 8 from rfl, this]

set_option maxRecDepth 100000 in
set_option maxHeartbeats 400000 in
theorem nof_cells (g off n cap : Nat) (f : Nat → UInt8) (hn : n ≤ 7) (hc : n ≤ cap) (w : World) (hr : ∀ j, j < n → w.cell? ⟨g, off + j, none⟩ = some (.int .u8 (f (off + j)).toNat)) :
    Calls Tryz.prog 72 #[.slice (some ⟨g, off, none⟩) n cap] w fun e w' => e = .returned (.int .u64 (valF f off n)) ∧ w' = w := by
  go_enter Tryz.func72, Tryz.ntmps72
  go_wp2
  go_loop [3, 5, 8] (fun x _ i => ∃ q u : Nat, Hid (u = valF f off q) ∧ q ≤ n ∧ x = .int .u64 u ∧ i = .int .i64 q) (fun _ _ i => n - (intOf i).toNat)
  case atStart => exact ⟨0, 0, rfl, by omega, rfl, rfl⟩
  case round =>
    obtain ⟨q, u, HU, hq, rfl, rfl⟩ := hrel
    by_cases hlt : q < n
    · have c0 : w.cell? ⟨g, off + q, none⟩ = some (.int .u8 (f (off + q)).toNat) := hr q hlt
      have hbb : ((f (off + q)).toNat : Int) < 256 := by have := (f (off + q)).toNat_lt; omega
      have hu : u < 72057594037927936 := by
        have h1 := valF_lt f off q
        have h2 : 256 ^ q ≤ 256 ^ 6 := Nat.pow_le_pow_right (by omega) (by omega)
        rw [← HU.out] at h1
        have : (256 : Nat) ^ 6 = 281474976710656 := rfl
        omega
      have HO : Hid _ := or_byte u (f (off + q)) hu
      go_wp2
      rw [HO.out]
      go_round
      case rel =>
        refine ⟨q + 1, u * 256 + (f (off + q)).toNat, ?_, by omega, rfl, by go_num⟩
        show _ = valF f off q * 256 + (f (off + q)).toNat
        rw [← HU.out]
      case measure => simp [intOf]; omega
    · have hqn : q = n := by omega
      subst hqn
      go_wp2
      go_ret
      exact ⟨by rw [HU.out]; rfl, rfl⟩
theorem nof_any (g off n cap m : Nat) (t : TypeId) (f : Nat → UInt8) (hm : off + n ≤ m) (hn : n ≤ 7) (hc : n ≤ cap) (w : World) (hr : Row w g m t (by8 f)) :
    Calls Tryz.prog 72 #[.slice (some ⟨g, off, none⟩) n cap] w fun e w' => e = .returned (.int .u64 (valF f off n)) ∧ w' = w :=
  nof_cells g off n cap f hn hc w fun j hj => hr.cell (off + j) (by omega)
end Go.Proofs.YtgalgjmhdbncbaaGreat
