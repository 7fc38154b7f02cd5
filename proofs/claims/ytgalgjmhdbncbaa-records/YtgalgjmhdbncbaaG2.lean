import Derived.Test.YtgalgjmhdbncbaaG1
import Derived.Test.YtgalgjmhdbncbaaA6
namespace Go.Proofs.Ytgalgjmhdbncbaa
open Go.RowKit

def LdT (t : TypeId) (v : Value) : Sem Value := Instr.loadAt t v
theorem ldw40 (v : Value) : Instr.loadAt 53 v = LdT 53 v := rfl
theorem ldw50 (v : Value) : Instr.loadAt 78 v = LdT 78 v := rfl
theorem ldw60 (v : Value) : Instr.loadAt 104 v = LdT 104 v := rfl
theorem ldw63 (v : Value) : Instr.loadAt 107 v = LdT 107 v := rfl
theorem ldw52 (v : Value) : Instr.loadAt 80 v = LdT 80 v := rfl
def ldO (P : Program) (t : TypeId) (g off : Nat) (w : World) : Result Value := Sem.run P (Instr.loadAt t (.pointer (some ⟨g, off, none⟩))) w
def ldN (o : Option Obj) (off n : Nat) (w : World) (r : Result Value) : Result Value :=
  match o with
  | some (.cells cs _ fr) => if fr = (0, 0) ∧ off + n ≤ cs.size then .ok (.agg (cs.extract off (off + n))) w else r
  | _ => r
theorem run_ldT (t n : Nat) (d : TypeDesc) (hu : Try.prog.underlying t = some d) (hd : d.isRow = true) (hi : (Try.prog.info? t).map (·.size) = some n) (g off : Nat) (w : World) :
    Sem.run Try.prog (LdT t (.pointer (some ⟨g, off, none⟩))) w = ldN (blk w g) off n w (ldO Try.prog t g off w) := by
  unfold ldN blk
  split
  · rename_i cs t' fr h
    split
    · rename_i hc
      obtain ⟨rfl, h1⟩ := hc
      have hr := World.rangeAt_of_block h off n
      have := run_loadAt_mid (P := Try.prog) w g off t _ d hr hu hd (by rw [hi]; simp; omega)
      rw [Array.toArray_toList] at this
      exact this
    · rfl
  · rfl
theorem run_ldT40 (g off : Nat) (w : World) : Sem.run Try.prog (LdT 53 (.pointer (some ⟨g, off, none⟩))) w = ldN (blk w g) off 16 w (ldO Try.prog 53 g off w) := run_ldT 53 16 _ Try.underlying53 rfl (by kernel_rfl) g off w
theorem run_ldT50 (g off : Nat) (w : World) : Sem.run Try.prog (LdT 78 (.pointer (some ⟨g, off, none⟩))) w = ldN (blk w g) off 256 w (ldO Try.prog 78 g off w) := run_ldT 78 256 _ Try.underlying78 rfl (by kernel_rfl) g off w
theorem run_ldT60 (g off : Nat) (w : World) : Sem.run Try.prog (LdT 104 (.pointer (some ⟨g, off, none⟩))) w = ldN (blk w g) off 255 w (ldO Try.prog 104 g off w) := run_ldT 104 255 _ Try.underlying104 rfl (by kernel_rfl) g off w
theorem run_ldT63 (g off : Nat) (w : World) : Sem.run Try.prog (LdT 107 (.pointer (some ⟨g, off, none⟩))) w = ldN (blk w g) off 4 w (ldO Try.prog 107 g off w) := run_ldT 107 4 _ Try.underlying107 rfl (by kernel_rfl) g off w
theorem run_ldT52 (g off : Nat) (w : World) : Sem.run Try.prog (LdT 80 (.pointer (some ⟨g, off, none⟩))) w = ldN (blk w g) off 240 w (ldO Try.prog 80 g off w) := run_ldT 80 240 _ Try.underlying80 rfl (by kernel_rfl) g off w
theorem arr_cut (m : Nat) (V : Nat → Value) (off n : Nat) (h : off + n ≤ m) : (arr m V).extract off (off + n) = arr n fun j => V (off + j) := by
  apply Array.ext_getElem?
  intro i
  rw [Array.getElem?_extract]
  by_cases hi : i < n
  · rw [arr_get _ _ _ hi, if_pos (by rw [arr_size]; omega), arr_get _ _ _ (by omega)]
  · rw [if_neg (by rw [arr_size]; omega)]
    simp [arr, hi]
theorem ldN_mid (m : Nat) (V : Nat → Value) (t : TypeId) (off n : Nat) (w : World) (r : Result Value) (h : off + n ≤ m) : ldN (some (.cells (arr m V) t (0, 0))) off n w r = .ok (.agg (arr n fun j => V (off + j))) w := by
  unfold ldN
  simp only [arr_size, h, and_self, if_true, arr_cut m V off n h]
theorem ldN_row (m : Nat) (V : Nat → Value) (t : TypeId) (w : World) (r : Result Value) : ldN (some (.cells (arr m V) t (0, 0))) 0 m w r = .ok (.agg (arr m V)) w := by
  rw [ldN_mid _ _ _ _ _ _ _ (by omega)]
  simp
theorem ldN_key (rr : Nat) (ks bx : Nat → UInt8) (i : Nat) (w : World) (r : Result Value) (h : i < 15) : ldN (some (.cells (arr 497 (ciph rr ks bx)) 83 (0, 0))) (1 + i * 16) 16 w r = .ok (.agg (arr 16 (by8 fun j => ks (16 * i + j)))) w := by
  rw [ldN_mid _ _ _ _ _ _ _ (by omega)]
  congr 2
  apply arr_congr
  intro j hj
  unfold ciph
  rw [if_neg (by omega), if_pos (by omega)]
  unfold by8
  rw [show 1 + i * 16 + j - 1 = 16 * i + j by omega]

def StT (t : TypeId) (p v : Value) : Sem Unit := Instr.storeAt t p v
theorem stw40 (p v : Value) : Instr.storeAt 53 p v = StT 53 p v := rfl
theorem stw50 (p v : Value) : Instr.storeAt 78 p v = StT 78 p v := rfl
theorem stw63 (p v : Value) : Instr.storeAt 107 p v = StT 107 p v := rfl
theorem stw52 (p v : Value) : Instr.storeAt 80 p v = StT 80 p v := rfl
def stO (P : Program) (t : TypeId) (v : Value) (g : Nat) (w : World) : Result Unit := Sem.run P (Instr.storeAt t (.pointer (some ⟨g, 0, none⟩)) v) w
def stN (o : Option Obj) (n : Nat) (v : Value) (g : Nat) (w : World) (r : Result Unit) : Result Unit :=
  match o, v with
  | some (.cells cs _ fr), .agg cs' => if fr = (0, 0) ∧ cs.size = n ∧ cs'.size = n ∧ cs'.all (·.oneCell') = true then .ok () (w.setRow g cs') else r
  | _, _ => r
theorem run_stT (t n : Nat) (hi : (Try.prog.info? t).map (·.size) = some n) (g : Nat) (v : Value) (w : World) :
    Sem.run Try.prog (StT t (.pointer (some ⟨g, 0, none⟩)) v) w = stN (blk w g) n v g w (stO Try.prog t v g w) := by
  unfold stN blk
  split
  · rename_i cs t' fr cs' h
    split
    · rename_i hc
      obtain ⟨rfl, h1, h2, h3⟩ := hc
      show Sem.run Try.prog (Instr.storeAt t (.pointer (some ⟨g, 0, none⟩)) (.agg cs')) w = _
      simp only [Instr.storeAt, Instr.sureAddr, Sem.run_bind, Sem.run_pure, Result.andThen_ok]
      exact run_storeVar_row w g t' t _ _ h (by rw [h2]; exact hi) (by rw [h1, h2]) h3
    · rfl
  · rfl
theorem run_stT40 (g : Nat) (v : Value) (w : World) : Sem.run Try.prog (StT 53 (.pointer (some ⟨g, 0, none⟩)) v) w = stN (blk w g) 16 v g w (stO Try.prog 53 v g w) := run_stT 53 16 (by kernel_rfl) g v w
theorem run_stT50 (g : Nat) (v : Value) (w : World) : Sem.run Try.prog (StT 78 (.pointer (some ⟨g, 0, none⟩)) v) w = stN (blk w g) 256 v g w (stO Try.prog 78 v g w) := run_stT 78 256 (by kernel_rfl) g v w
theorem run_stT63 (g : Nat) (v : Value) (w : World) : Sem.run Try.prog (StT 107 (.pointer (some ⟨g, 0, none⟩)) v) w = stN (blk w g) 4 v g w (stO Try.prog 107 v g w) := run_stT 107 4 (by kernel_rfl) g v w
theorem run_stT52 (g : Nat) (v : Value) (w : World) : Sem.run Try.prog (StT 80 (.pointer (some ⟨g, 0, none⟩)) v) w = stN (blk w g) 240 v g w (stO Try.prog 80 v g w) := run_stT 80 240 (by kernel_rfl) g v w
theorem stN_row (n : Nat) (V : Nat → Value) (t : TypeId) (f : Nat → UInt8) (g : Nat) (w : World) (r : Result Unit) : stN (some (.cells (arr n V) t (0, 0))) n (.agg (arr n (by8 f))) g w r = .ok () (w.setRow g (arr n (by8 f))) := by
  have hc : ((0, 0) : Nat × Nat) = (0, 0) ∧ (arr n V).size = n ∧ (arr n (by8 f)).size = n ∧ (arr n (by8 f)).all (·.oneCell') = true := ⟨rfl, arr_size _ _, arr_size _ _, one8 n f⟩
  unfold stN
  exact if_pos hc
theorem stN_z (n : Nat) (V : Nat → Value) (t : TypeId) (g : Nat) (w : World) (r : Result Unit) : stN (some (.cells (arr n V) t (0, 0))) n (.agg (arr n z8)) g w r = .ok () (w.setRow g (arr n z8)) := stN_row n V t _ g w r
theorem res50 {fn : Func} {p : Tmp} (h : fn.results = #[.cell p 78]) (tmps : Array Value) (w : World) (g : Nat) (V : Nat → Value)
    (hp : tmps.getD p undef = .pointer (some ⟨g, 0, none⟩)) (t' : TypeId) (hg : Row w g 256 t' V) : (results fn tmps).run Try.prog w = .ok (.agg (arr 256 V)) w :=
  results_cell_row h tmps w g t' _ (0, 0) _ hp hg Try.underlying78 rfl (by rw [arr_size]; kernel_rfl)
theorem res63 {fn : Func} {p : Tmp} (h : fn.results = #[.cell p 107]) (tmps : Array Value) (w : World) (g : Nat) (V : Nat → Value)
    (hp : tmps.getD p undef = .pointer (some ⟨g, 0, none⟩)) (t' : TypeId) (hg : Row w g 4 t' V) : (results fn tmps).run Try.prog w = .ok (.agg (arr 4 V)) w :=
  results_cell_row h tmps w g t' _ (0, 0) _ hp hg Try.underlying107 rfl (by rw [arr_size]; kernel_rfl)
theorem res52 {fn : Func} {p : Tmp} (h : fn.results = #[.cell p 80]) (tmps : Array Value) (w : World) (g : Nat) (V : Nat → Value)
    (hp : tmps.getD p undef = .pointer (some ⟨g, 0, none⟩)) (t' : TypeId) (hg : Row w g 240 t' V) : (results fn tmps).run Try.prog w = .ok (.agg (arr 240 V)) w :=
  results_cell_row h tmps w g t' _ (0, 0) _ hp hg Try.underlying80 rfl (by rw [arr_size]; kernel_rfl)

def dbl (b : UInt8) : UInt8 := (b <<< 1) ^^^ ((b >>> 7) * 27)
theorem dbl_int : ∀ n : Fin 256, bits .xor .u8 ((n.val : Int) * 2 % 256) ((n.val : Int) / 128 * 27 % 256) = ((dbl (UInt8.ofNat n.val)).toNat : Int) := by decide +kernel
set_option maxHeartbeats 400000 in
theorem dbl_any (b : UInt8) (w : World) : Calls Try.prog 80 #[.int .u8 b.toNat] w fun e w' => e = .returned (.int .u8 (dbl b).toNat) ∧ w' = w := by
  have h := dbl_int ⟨b.toNat, b.toNat_lt⟩
  simp only [UInt8.ofNat_toNat] at h
  have HH : Hid _ := h
  clear h
  go_enter Try.func80, Try.ntmps80
  go_wp2
  go_ret
  exact ⟨by rw [← HH.out]; rfl, rfl⟩
def rotl (b : UInt8) (k : Nat) : UInt8 := UInt8.ofNat (b.toNat * 2 ^ k % 256 + b.toNat * 2 ^ k / 256)
set_option maxHeartbeats 400000 in
theorem rot_any (b : UInt8) (k : Nat) (hk : k < 5) (w : World) : Calls Try.prog 95 #[.int .u8 b.toNat, .int .i64 k] w fun e w' => e = .returned (.int .u8 (rotl b k).toNat) ∧ w' = w := by
  have e : bits .and .u64 (k : Int) 7 = (k : Int) := by
    have : ∀ n : Fin 5, bits .and .u64 (n.val : Int) 7 = (n.val : Int) := by decide +kernel
    exact this ⟨k, hk⟩
  have h : bits .or .u8 ((b.toNat : Int) * 2 ^ k % 256) ((b.toNat : Int) / 2 ^ (8 - k)) = ((rotl b k).toNat : Int) := by
    have : ∀ k : Fin 5, ∀ n : Fin 256, bits .or .u8 ((n.val : Int) * 2 ^ k.val % 256) ((n.val : Int) / 2 ^ (8 - k.val)) = ((rotl (UInt8.ofNat n.val) k.val).toNat : Int) := by decide +kernel
    have h := this ⟨k, hk⟩ ⟨b.toNat, b.toNat_lt⟩
    simp only [UInt8.ofNat_toNat] at h
    exact h
  have HH : Hid _ := h
  clear h
  go_enter Try.func95, Try.ntmps95
  go_wp2
  go_ret
  exact ⟨by rw [← HH.out]; rfl, rfl⟩
def spr (b : UInt8) : Nat → UInt8
  | 0 => 99
  | k + 1 => spr b k ^^^ rotl b k
theorem ret_u8 {a b : Int} (h : a = b) : Ending.returned (.int .u8 a) = .returned (.int .u8 b) := by rw [h]
set_option maxHeartbeats 400000 in
theorem spread_any (b : UInt8) (w : World) : Calls Try.prog 81 #[.int .u8 b.toNat] w fun e w' => e = .returned (.int .u8 (spr b 5).toNat) ∧ w' = w := by
  go_enter Try.func81, Try.ntmps81
  go_wp2
  go_loop [3, 5] (fun s i => ∃ k : Nat, k ≤ 5 ∧ i = .int .i64 k ∧ s = .int .u8 (spr b k).toNat) (fun _ i => 5 - (intOf i).toNat)
  case atStart => exact ⟨0, by omega, rfl, rfl⟩
  case round =>
    obtain ⟨k, hk, rfl, rfl⟩ := hrel
    by_cases hlt : k < 5
    · go_wp2_with (go_at_call 95; refine (rot_any b k hlt _).mono ?_; rintro e w1 ⟨rfl, rfl⟩)
      go_round
      case rel => exact ⟨k + 1, by omega, by go_num, by rw [u8_xor_b]; rfl⟩
      case measure => simp [intOf]; omega
    · have h5 : k = 5 := by omega
      subst h5
      go_wp2
      go_ret
      exact ⟨rfl, rfl⟩
theorem spread_0 (w : World) : Calls Try.prog 81 #[.int .u8 0] w fun e w' => e = .returned (.int .u8 (spr 0 5).toNat) ∧ w' = w := spread_any 0 w
end Go.Proofs.Ytgalgjmhdbncbaa
