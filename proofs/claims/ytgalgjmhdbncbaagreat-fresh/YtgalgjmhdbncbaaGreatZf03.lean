import Derived.Test.YtgalgjmhdbncbaaGreatZf02
import Derived.Deep.OwnRows
namespace Go.Proofs.YtgalgjmhdbncbaaGreat
open Go.RowKit

def LdT (t : TypeId) (v : Value) : Sem Value := Instr.loadAt t v
theorem ldw40 (v : Value) : Instr.loadAt 145 v = LdT 145 v := rfl
theorem ldw50 (v : Value) : Instr.loadAt 206 v = LdT 206 v := rfl
theorem ldw60 (v : Value) : Instr.loadAt 217 v = LdT 217 v := rfl
theorem ldw63 (v : Value) : Instr.loadAt 220 v = LdT 220 v := rfl
theorem ldw52 (v : Value) : Instr.loadAt 208 v = LdT 208 v := rfl
def ldO (P : Program) (t : TypeId) (g off : Nat) (w : World) : Result Value := Sem.run P (Instr.loadAt t (.pointer (some ⟨g, off, none⟩))) w
def ldN (o : Option Obj) (off n : Nat) (w : World) (r : Result Value) : Result Value :=
  match o with
  | some (.cells cs _ fr) => if fr = (0, 0) ∧ off + n ≤ cs.size then .ok (.agg (cs.extract off (off + n))) w else r
  | _ => r
theorem run_ldT (t n : Nat) (d : TypeDesc) (hu : Tryz.prog.underlying t = some d) (hd : d.isRow = true) (hi : (Tryz.prog.info? t).map (·.size) = some n) (g off : Nat) (w : World) :
    Sem.run Tryz.prog (LdT t (.pointer (some ⟨g, off, none⟩))) w = ldN (blk w g) off n w (ldO Tryz.prog t g off w) := by
  unfold ldN blk
  split
  · rename_i cs t' fr h
    split
    · rename_i hc
      obtain ⟨rfl, h1⟩ := hc
      have hr := World.rangeAt_of_block h off n
      have := run_loadAt_mid (P := Tryz.prog) w g off t _ d hr hu hd (by rw [hi]; simp; omega)
      rw [Array.toArray_toList] at this
      exact this
    · rfl
  · rfl
theorem run_ldT40 (g off : Nat) (w : World) : Sem.run Tryz.prog (LdT 145 (.pointer (some ⟨g, off, none⟩))) w = ldN (blk w g) off 16 w (ldO Tryz.prog 145 g off w) := run_ldT 145 16 _ Tryz.underlying145 rfl (by kernel_rfl) g off w
theorem run_ldT50 (g off : Nat) (w : World) : Sem.run Tryz.prog (LdT 206 (.pointer (some ⟨g, off, none⟩))) w = ldN (blk w g) off 256 w (ldO Tryz.prog 206 g off w) := run_ldT 206 256 _ Tryz.underlying206 rfl (by kernel_rfl) g off w
theorem run_ldT60 (g off : Nat) (w : World) : Sem.run Tryz.prog (LdT 217 (.pointer (some ⟨g, off, none⟩))) w = ldN (blk w g) off 255 w (ldO Tryz.prog 217 g off w) := run_ldT 217 255 _ Tryz.underlying217 rfl (by kernel_rfl) g off w
theorem run_ldT63 (g off : Nat) (w : World) : Sem.run Tryz.prog (LdT 220 (.pointer (some ⟨g, off, none⟩))) w = ldN (blk w g) off 4 w (ldO Tryz.prog 220 g off w) := run_ldT 220 4 _ Tryz.underlying220 rfl (by kernel_rfl) g off w
theorem run_ldT52 (g off : Nat) (w : World) : Sem.run Tryz.prog (LdT 208 (.pointer (some ⟨g, off, none⟩))) w = ldN (blk w g) off 240 w (ldO Tryz.prog 208 g off w) := run_ldT 208 240 _ Tryz.underlying208 rfl (by kernel_rfl) g off w
theorem arr_cut (m : Nat) (V : Nat → Value) (off n : Nat) (h : off + n ≤ m) : (arr m V).extract off (off + n) = arr n fun j => V (off + j) := by
  apply Array.ext_getElem?
  intro i
  rw [Array.getElem?_extract]
  by_cases hi : i < n
  · rw [arr_get _ _ _ hi, if_pos (by rw [arr_size]; omega), arr_get _ _ _ (by omega)]
  · rw [if_neg (by rw [arr_size]; omega)]
    simp [arr, hi]
theorem ldN_mid (m : Nat) (V : Nat → Value) (t : TypeId) (off n : Nat) (w : World) (r : Result Value) (h : off + n ≤ m) : ldN (some (.cells (arr m V) t (0, 0))) off n w r = .ok (.agg (arr n fun j => V (off + j))) w := by
  unfold ldN
  simp only [arr_size, h, and_self, if_true, arr_cut m V off n h]
theorem ldN_row (m : Nat) (V : Nat → Value) (t : TypeId) (w : World) (r : Result Value) : ldN (some (.cells (arr m V) t (0, 0))) 0 m w r = .ok (.agg (arr m V)) w := by
  rw [ldN_mid _ _ _ _ _ _ _ (by omega)]
  simp
theorem ldN_key (rr : Nat) (ks bx : Nat → UInt8) (i : Nat) (w : World) (r : Result Value) (h : i < 15) : ldN (some (.cells (arr 497 (ciph rr ks bx)) 211 (0, 0))) (1 + i * 16) 16 w r = .ok (.agg (arr 16 (by8 fun j => ks (16 * i + j)))) w := by
  rw [ldN_mid _ _ _ _ _ _ _ (by omega)]
  congr 2
  apply arr_congr
  intro j hj
  unfold ciph
  rw [if_neg (by omega), if_pos (by omega)]
  unfold by8
  rw [show 1 + i * 16 + j - 1 = 16 * i + j by omega]

def StT (t : TypeId) (p v : Value) : Sem Unit := Instr.storeAt t p v
theorem stw40 (p v : Value) : Instr.storeAt 145 p v = StT 145 p v := rfl
theorem stw50 (p v : Value) : Instr.storeAt 206 p v = StT 206 p v := rfl
theorem stw63 (p v : Value) : Instr.storeAt 220 p v = StT 220 p v := rfl
theorem stw52 (p v : Value) : Instr.storeAt 208 p v = StT 208 p v := rfl
def stO (P : Program) (t : TypeId) (v : Value) (g : Nat) (w : World) : Result Unit := Sem.run P (Instr.storeAt t (.pointer (some ⟨g, 0, none⟩)) v) w
def stN (o : Option Obj) (n : Nat) (v : Value) (g : Nat) (w : World) (r : Result Unit) : Result Unit :=
  match o, v with
  | some (.cells cs _ fr), .agg cs' => if fr = (0, 0) ∧ cs.size = n ∧ cs'.size = n ∧ cs'.all (·.oneCell') = true then .ok () (w.setRow g cs') else r
  | _, _ => r
theorem run_stT (t n : Nat) (hi : (Tryz.prog.info? t).map (·.size) = some n) (g : Nat) (v : Value) (w : World) :
    Sem.run Tryz.prog (StT t (.pointer (some ⟨g, 0, none⟩)) v) w = stN (blk w g) n v g w (stO Tryz.prog t v g w) := by
  unfold stN blk
  split
  · rename_i cs t' fr cs' h
    split
    · rename_i hc
      obtain ⟨rfl, h1, h2, h3⟩ := hc
      show Sem.run Tryz.prog (Instr.storeAt t (.pointer (some ⟨g, 0, none⟩)) (.agg cs')) w = _
      simp only [Instr.storeAt, Instr.sureAddr, Sem.run_bind, Sem.run_pure, Result.andThen_ok]
      exact run_storeVar_row w g t' t _ _ h (by rw [h2]; exact hi) (by rw [h1, h2]) h3
    · rfl
  · rfl
theorem run_stT40 (g : Nat) (v : Value) (w : World) : Sem.run Tryz.prog (StT 145 (.pointer (some ⟨g, 0, none⟩)) v) w = stN (blk w g) 16 v g w (stO Tryz.prog 145 v g w) := run_stT 145 16 (by kernel_rfl) g v w
theorem run_stT50 (g : Nat) (v : Value) (w : World) : Sem.run Tryz.prog (StT 206 (.pointer (some ⟨g, 0, none⟩)) v) w = stN (blk w g) 256 v g w (stO Tryz.prog 206 v g w) := run_stT 206 256 (by kernel_rfl) g v w
theorem run_stT63 (g : Nat) (v : Value) (w : World) : Sem.run Tryz.prog (StT 220 (.pointer (some ⟨g, 0, none⟩)) v) w = stN (blk w g) 4 v g w (stO Tryz.prog 220 v g w) := run_stT 220 4 (by kernel_rfl) g v w
theorem run_stT52 (g : Nat) (v : Value) (w : World) : Sem.run Tryz.prog (StT 208 (.pointer (some ⟨g, 0, none⟩)) v) w = stN (blk w g) 240 v g w (stO Tryz.prog 208 v g w) := run_stT 208 240 (by kernel_rfl) g v w
theorem stN_row (n : Nat) (V : Nat → Value) (t : TypeId) (f : Nat → UInt8) (g : Nat) (w : World) (r : Result Unit) : stN (some (.cells (arr n V) t (0, 0))) n (.agg (arr n (by8 f))) g w r = .ok () (w.setRow g (arr n (by8 f))) := by
  have hc : ((0, 0) : Nat × Nat) = (0, 0) ∧ (arr n V).size = n ∧ (arr n (by8 f)).size = n ∧ (arr n (by8 f)).all (·.oneCell') = true := ⟨rfl, arr_size _ _, arr_size _ _, one8 n f⟩
  unfold stN
  exact if_pos hc
theorem stN_z (n : Nat) (V : Nat → Value) (t : TypeId) (g : Nat) (w : World) (r : Result Unit) : stN (some (.cells (arr n V) t (0, 0))) n (.agg (arr n z8)) g w r = .ok () (w.setRow g (arr n z8)) := stN_row n V t _ g w r
theorem res50 {fn : Func} {p : Tmp} (h : fn.results = #[.cell p 206]) (tmps : Array Value) (w : World) (g : Nat) (V : Nat → Value)
    (hp : tmps.getD p undef = .pointer (some ⟨g, 0, none⟩)) (t' : TypeId) (hg : Row w g 256 t' V) : (results fn tmps).run Tryz.prog w = .ok (.agg (arr 256 V)) w :=
  results_cell_row h tmps w g t' _ (0, 0) _ hp hg Tryz.underlying206 rfl (by rw [arr_size]; kernel_rfl)
theorem res63 {fn : Func} {p : Tmp} (h : fn.results = #[.cell p 220]) (tmps : Array Value) (w : World) (g : Nat) (V : Nat → Value)
    (hp : tmps.getD p undef = .pointer (some ⟨g, 0, none⟩)) (t' : TypeId) (hg : Row w g 4 t' V) : (results fn tmps).run Tryz.prog w = .ok (.agg (arr 4 V)) w :=
  results_cell_row h tmps w g t' _ (0, 0) _ hp hg Tryz.underlying220 rfl (by rw [arr_size]; kernel_rfl)
theorem res52 {fn : Func} {p : Tmp} (h : fn.results = #[.cell p 208]) (tmps : Array Value) (w : World) (g : Nat) (V : Nat → Value)
    (hp : tmps.getD p undef = .pointer (some ⟨g, 0, none⟩)) (t' : TypeId) (hg : Row w g 240 t' V) : (results fn tmps).run Tryz.prog w = .ok (.agg (arr 240 V)) w :=
  results_cell_row h tmps w g t' _ (0, 0) _ hp hg Tryz.underlying208 rfl (by rw [arr_size]; kernel_rfl)

def dbl (b : UInt8) : UInt8 := (b <<< 1) ^^^ ((b >>> 7) * 27)
theorem dbl_int : ∀ n : Fin 256, bits .xor .u8 ((n.val : Int) * 2 % 256) ((n.val : Int) / 128 * 27 % 256) = ((dbl (UInt8.ofNat n.val)).toNat : Int) := by decide +kernel
set_option maxHeartbeats 400000 in
theorem dbl_any (b : UInt8) (w : World) : Calls Tryz.prog 148 #[.int .u8 b.toNat] w fun e w' => e = .returned (.int .u8 (dbl b).toNat) ∧ w' = w := by
  have h := dbl_int ⟨b.toNat, b.toNat_lt⟩
  simp only [UInt8.ofNat_toNat] at h
  have HH : Hid _ := h
  clear h
  go_enter Tryz.func148, Tryz.ntmps148
  go_wp2
  go_ret
  exact ⟨by rw [← HH.out]; rfl, rfl⟩
def rotl (b : UInt8) (k : Nat) : UInt8 := UInt8.ofNat (b.toNat * 2 ^ k % 256 + b.toNat * 2 ^ k / 256)
set_option maxHeartbeats 400000 in
theorem rot_any (b : UInt8) (k : Nat) (hk : k < 5) (w : World) : Calls Tryz.prog 158 #[.int .u8 b.toNat, .int .i64 k] w fun e w' => e = .returned (.int .u8 (rotl b k).toNat) ∧ w' = w := by
  have e : bits .and .u64 (k : Int) 7 = (k : Int) := by
    have : ∀ n : Fin 5, bits .and .u64 (n.val : Int) 7 = (n.val : Int) := by decide +kernel
    exact this ⟨k, hk⟩
  have h : bits .or .u8 ((b.toNat : Int) * 2 ^ k % 256) ((b.toNat : Int) / 2 ^ (8 - k)) = ((rotl b k).toNat : Int) := by
    have : ∀ k : Fin 5, ∀ n : Fin 256, bits .or .u8 ((n.val : Int) * 2 ^ k.val % 256) ((n.val : Int) / 2 ^ (8 - k.val)) = ((rotl (UInt8.ofNat n.val) k.val).toNat : Int) := by decide +kernel
    have h := this ⟨k, hk⟩ ⟨b.toNat, b.toNat_lt⟩
    simp only [UInt8.ofNat_toNat] at h
    exact h
  have HH : Hid _ := h
  clear h
  go_enter Tryz.func158, Tryz.ntmps158
  go_wp2
  go_ret
  exact ⟨by rw [← HH.out]; rfl, rfl⟩
def spr (b : UInt8) : Nat → UInt8
  | 0 => 99
  | k + 1 => spr b k ^^^ rotl b k
theorem ret_u8 {a b : Int} (h : a = b) : Ending.returned (.int .u8 a) = .returned (.int .u8 b) := by rw [h]
set_option maxHeartbeats 400000 in
theorem spread_any (b : UInt8) (w : World) : Calls Tryz.prog 149 #[.int .u8 b.toNat] w fun e w' => e = .returned (.int .u8 (spr b 5).toNat) ∧ w' = w := by
  go_enter Tryz.func149, Tryz.ntmps149
  go_wp2
  go_loop [3, 5] (fun s i => ∃ k : Nat, k ≤ 5 ∧ i = .int .i64 k ∧ s = .int .u8 (spr b k).toNat) (fun _ i => 5 - (intOf i).toNat)
  case atStart => exact ⟨0, by omega, rfl, rfl⟩
  case round =>
    obtain ⟨k, hk, rfl, rfl⟩ := hrel
    by_cases hlt : k < 5
    · go_wp2_with (go_at_call 158; refine (rot_any b k hlt _).mono ?_; rintro e w1 ⟨rfl, rfl⟩)
      go_round
      case rel => exact ⟨k + 1, by omega, by go_num, by rw [u8_xor_b]; rfl⟩
      case measure => simp [intOf]; omega
    · have h5 : k = 5 := by omega
      subst h5
      go_wp2
      go_ret
      exact ⟨rfl, rfl⟩
theorem spread_0 (w : World) : Calls Tryz.prog 149 #[.int .u8 0] w fun e w' => e = .returned (.int .u8 (spr 0 5).toNat) ∧ w' = w := spread_any 0 w
end Go.Proofs.YtgalgjmhdbncbaaGreat
namespace Go.Proofs.YtgalgjmhdbncbaaGreat
open Go.RowKit

def zs (n : Nat) : ByteArray := str n fun _ => 0
theorem info5 : (Tryz.prog.info? 5).map (fun i => (i.zero, i.size, i.bytes)) = some (some (.int .u8 0), 1, 1) := by kernel_rfl
theorem made8 (n : Nat) : madeCells #[Value.int .u8 0] n = arr n z8 := by
  apply Array.ext_getElem?
  intro i
  by_cases h : i < n
  · rw [arr_get _ _ _ h]; simp [madeCells, h, Nat.mod_one, z8, by8]
  · simp [madeCells, arr, h]
theorem mk8 (n : Nat) (h : n ≤ 281474976710656) (w : World) : (Instr.makeSlice 105 (.int .i64 (n : Int)) (.int .i64 (n : Int))).run Tryz.prog w = .ok (.slice (some ⟨w.heap.size, 0, none⟩) n n) (w.alloc (.cells (arr n z8) 5)) := by
  have := run_make_row' (P := Tryz.prog) 105 5 (.int .u8 0) 1 Tryz.underlying105 info5 rfl .i64 .i64 n (by omega) (by omega) w
  rw [made8] at this
  exact this
theorem convZ (n : Nat) (w : World) : (convert 105 9 (.slice (some ⟨w.heap.size, 0, none⟩) n n)).run Tryz.prog (w.alloc (.cells (arr n z8) 5)) = .ok (.string (zs n)) (w.alloc (.cells (arr n z8) 5)) :=
  conv8 _ _ n n 5 (fun _ => 0) n (Row.new _ _ _ _ _ rfl) (Nat.le_refl _)

def Cv8 (v : Value) : Sem Value := convert 105 9 v
theorem cv_wrap (v : Value) : convert 105 9 v = Cv8 v := rfl
def cvOrig (P : Program) (g n c : Nat) (w : World) : Result Value := Sem.run P (convert 105 9 (.slice (some ⟨g, 0, none⟩) n c)) w
def isBytes (cs : Array Value) (n : Nat) : Bool := cs.size = n && cs.all fun | .int .u8 x => decide (0 ≤ x ∧ x < 256) | _ => false
def cvRes (o : Option Obj) (n : Nat) (w : World) (r : Result Value) : Result Value :=
  match o with
  | some (.cells cs _ fr) => if fr = (0, 0) ∧ isBytes cs n = true then .ok (.string (str n fun j => match cs[j]? with | some (.int .u8 x) => UInt8.ofNat x.toNat | _ => 0)) w else r
  | _ => r
theorem isBytes_arr (n : Nat) (cs : Array Value) (h : isBytes cs n = true) : cs = arr n (by8 fun j => match cs[j]? with | some (.int .u8 x) => UInt8.ofNat x.toNat | _ => 0) := by
  simp only [isBytes, Bool.and_eq_true, decide_eq_true_eq] at h
  obtain ⟨h1, h2⟩ := h
  apply Array.ext_getElem?
  intro i
  by_cases hi : i < n
  · rw [arr_get _ _ _ hi]
    have hi' : i < cs.size := by omega
    have h3 := (Array.all_eq_true.1 h2) i hi'
    rw [Array.getElem?_eq_getElem hi']
    simp only [by8, Array.getElem?_eq_getElem hi']
    revert h3
    generalize cs[i] = v
    intro h3
    split at h3
    · simp only [decide_eq_true_eq] at h3
      rename_i x
      have : ((UInt8.ofNat x.toNat).toNat : Int) = x := by
        rw [UInt8.toNat_ofNat']; omega
      rw [this]
    · cases h3
  · simp [arr, hi]; omega
theorem run_cv (g n c : Nat) (w : World) : Sem.run Tryz.prog (Cv8 (.slice (some ⟨g, 0, none⟩) n c)) w = cvRes (blk w g) n w (cvOrig Tryz.prog g n c w) := by
  unfold cvRes blk
  split
  · rename_i cs t fr h
    split
    · rename_i hc
      obtain ⟨rfl, hb⟩ := hc
      have e := isBytes_arr n cs hb
      have hr : Row w g n t (by8 fun j => match cs[j]? with | some (.int .u8 x) => UInt8.ofNat x.toNat | _ => 0) := by
        unfold Row; rw [← e]; exact h
      exact conv8 w g n c t _ n hr (Nat.le_refl _)
    · rfl
  · rfl
theorem cvRes_row (n : Nat) (t : TypeId) (f : Nat → UInt8) (w : World) (r : Result Value) : cvRes (some (.cells (arr n (by8 f)) t (0, 0))) n w r = .ok (.string (str n f)) w := by
  have hb : isBytes (arr n (by8 f)) n = true := by
    unfold isBytes
    rw [Bool.and_eq_true]
    refine ⟨by simp [arr_size], ?_⟩
    rw [Array.all_eq_true]
    intro i hi
    have hi' : i < n := by simpa [arr_size] using hi
    have : (arr n (by8 f))[i] = by8 f i := by
      have := arr_get n (by8 f) i hi'
      rw [Array.getElem?_eq_getElem hi] at this
      exact Option.some.inj this
    rw [this]
    have := (f i).toNat_lt
    simp [by8]
    omega
  unfold cvRes
  simp only [hb, and_self, if_true]
  congr 2
  apply str_congr
  intro j hj
  rw [arr_get _ _ _ hj]
  simp [by8]
theorem cvRes_z (n : Nat) (t : TypeId) (w : World) (r : Result Value) : cvRes (some (.cells (arr n z8) t (0, 0))) n w r = .ok (.string (zs n)) w := cvRes_row n t _ w r
theorem pick_neg (c : Int) (n : Nat) (hn : 0 < n) (hc : c < 0) : ∃ r : Nat, r < n ∧ -((c + 1).tmod n) = (r : Int) := by
  rw [← Int.neg_tmod, Int.tmod_eq_emod_of_nonneg (by omega)]
  have h1 := Int.emod_nonneg (-(c + 1)) (b := (n : Int)) (by omega)
  have h2 := Int.emod_lt_of_pos (-(c + 1)) (b := (n : Int)) (by omega)
  exact ⟨(-(c + 1) % (n : Int)).toNat, by omega, by omega⟩
theorem pick_pos (c : Int) (n : Nat) (hn : 0 < n) : ∃ r : Nat, r < n ∧ c % (n : Int) = (r : Int) := by
  have h1 := Int.emod_nonneg c (b := (n : Int)) (by omega)
  have h2 := Int.emod_lt_of_pos c (b := (n : Int)) (by omega)
  exact ⟨(c % (n : Int)).toNat, by omega, by omega⟩
set_option maxHeartbeats 400000 in
theorem pick_any (c : Int) (n : Nat) (h1 : -9223372036854775808 ≤ c) (h2 : c ≤ 9223372036854775807) (hn : 0 < n) (hn2 : n ≤ 1000000) (w : World) :
    Calls Tryz.prog 17 #[.int .i64 c, .int .i64 n] w fun e w' => (∃ r : Nat, r < n ∧ e = .returned (.int .i64 r)) ∧ w' = w := by
  by_cases hc : c < 0
  · obtain ⟨r, hr, he⟩ := pick_neg c n hn hc
    have HE : Hid _ := he
    clear he
    go_enter Tryz.func17, Tryz.ntmps17
    go_wp2
    go_ret
    exact ⟨⟨r, hr, by rw [← HE.out]; rfl⟩, rfl⟩
  · obtain ⟨r, hr, he⟩ := pick_pos c n hn
    have HE : Hid _ := he
    clear he
    go_enter Tryz.func17, Tryz.ntmps17
    go_wp2
    go_ret
    exact ⟨⟨r, hr, by rw [← HE.out]; rfl⟩, rfl⟩

theorem bytes_ext {a b : ByteArray} (hs : a.size = b.size) (h : ∀ j, j < a.size → sf a j = sf b j) : a = b := by
  rw [← str_sf a a.size rfl, ← str_sf b a.size hs.symm]
  exact str_congr h
theorem sf_append (a b : ByteArray) (j : Nat) : sf (a ++ b) j = if j < a.size then sf a j else sf b (j - a.size) := by
  have : (a ++ b).data = a.data ++ b.data := by simp
  simp only [sf, this]
  by_cases h : j < a.size
  · simp [Array.getElem?_append, h]
  · simp [Array.getElem?_append, h]
theorem sf_past (a : ByteArray) (j : Nat) (h : a.size ≤ j) : sf a j = 0 := by
  have h' : a.data.size ≤ j := h
  simp [sf, Array.getElem?_eq_none h']
theorem sf_zs (n j : Nat) : sf (zs n) j = 0 := by
  by_cases h : j < n
  · exact sf_str _ _ _ h
  · exact sf_past _ _ (by rw [zs, str_size]; omega)
theorem just_short (s : ByteArray) (n : Nat) (h : s.size ≤ n) : s ++ zs (n - s.size) = str n (sf s) := by
  apply bytes_ext
  · rw [str_size, ByteArray.size_append, zs, str_size]; omega
  · intro j hj
    rw [ByteArray.size_append, zs, str_size] at hj
    rw [sf_append, sf_str _ _ _ (by omega)]
    split
    · rfl
    · rw [sf_zs, sf_past _ _ (by omega)]
theorem just_long (s : ByteArray) (n : Nat) (h : n < s.size) : s.extract 0 n ++ zs 0 = str n (sf s) := by
  apply bytes_ext
  · rw [str_size, ByteArray.size_append, zs, str_size, cut_size _ _ _ (by omega)]; omega
  · intro j hj
    rw [ByteArray.size_append, zs, str_size, cut_size _ _ _ (by omega)] at hj
    rw [sf_append, sf_str _ _ _ (by omega), cut_size _ _ _ (by omega), if_pos (by omega), sf_cut _ _ _ _ (by omega) (by omega), Nat.zero_add]

theorem zs_size (n : Nat) : (zs n).size = n := str_size _ _
set_option maxHeartbeats 400000 in
theorem just_any (s : ByteArray) (n : Nat) (hn : n ≤ 1000000) (hs : s.size ≤ maxLen) (w : World) :
    Calls Tryz.prog 83 #[.string s, .int .i64 n] w fun e w' => e = .returned (.string (str n (sf s))) ∧ Below w.heap.size w w' := by
  unfold maxLen at hs
  by_cases hlt : n < s.size
  · have hm : ∀ w, (Instr.makeSlice 105 (.int .i64 0) (.int .i64 0)).run Tryz.prog w = .ok (.slice (some ⟨w.heap.size, 0, none⟩) 0 0) (w.alloc (.cells (arr 0 z8) 5)) := fun w => mk8 0 (by omega) w
    have hcv := convZ 0
    have HL : Hid _ := just_long s n hlt
    have hsz := cut_size s 0 n (by omega)
    have hz := zs_size 0
    go_enter Tryz.func83, Tryz.ntmps83
    go_wp2
    go_ret
    exact ⟨by rw [← HL.out]; rfl, (Below.refl _ _).alloc (Nat.le_refl _) _⟩
  · have hm := mk8 (n - s.size) (by omega)
    have ec : ((n - s.size : Nat) : Int) = (n : Int) - s.size := by omega
    rw [ec] at hm
    have hcv := convZ (n - s.size)
    have HL : Hid _ := just_short s n (by omega)
    have hz := zs_size (n - s.size)
    clear ec
    go_enter Tryz.func83, Tryz.ntmps83
    go_wp2
    go_ret
    exact ⟨by rw [← HL.out]; rfl, (Below.refl _ _).alloc (Nat.le_refl _) _⟩

theorem str_get (n : Nat) (f : Nat → UInt8) (k : Nat) (h : k < (str n f).size) : (str n f)[k] = f k := by
  show (str n f).data[k]'h = f k
  simp [str]
end Go.Proofs.YtgalgjmhdbncbaaGreat
namespace Go.Proofs.YtgalgjmhdbncbaaGreat

def numF (v n : Nat) (j : Nat) : UInt8 := UInt8.ofNat (v / 256 ^ (n - 1 - j))
def numT (v n : Nat) : ByteArray := str n (numF v n)
def up16 (n : Nat) : Nat := (n + 15) / 16 * 16
def padT (s : ByteArray) : ByteArray := str (up16 s.size) (sf s)
def valF (f : Nat → UInt8) (at' : Nat) : Nat → Nat
  | 0 => 0
  | n + 1 => valF f at' n * 256 + (f (at' + n)).toNat
theorem up16_le (n : Nat) : n ≤ up16 n := by unfold up16; omega
theorem up16_mod (n : Nat) : up16 n % 16 = 0 := by unfold up16; omega
theorem up16_up (n : Nat) : up16 n < n + 16 := by unfold up16; omega
theorem padT_size (s : ByteArray) : (padT s).size = up16 s.size := str_size _ _
theorem numT_size (v n : Nat) : (numT v n).size = n := str_size _ _
end Go.Proofs.YtgalgjmhdbncbaaGreat
