import Derived.Test.YtgalgjmhdbncbaaGreatZf01
import Derived.Deep.RegionHeld3
import Derived.Deep.MidRow
import Derived.Deep.DrawnRows
namespace Go.Proofs.YtgalgjmhdbncbaaGreat
open Go.RowKit
attribute [local go_sem ↓] Go.wp_at_zero Go.wp_at_succ

def cl (n : Nat) (V : Nat → Value) : List Value := (List.range n).map V
theorem cl_length (n : Nat) (V : Nat → Value) : (cl n V).length = n := by simp [cl]
theorem cl_one (n : Nat) (f : Nat → UInt8) : ∀ v ∈ cl n (by8 f), v.oneCell' = true := by
  intro v hv
  simp only [cl, List.mem_map] at hv
  obtain ⟨j, _, rfl⟩ := hv
  rfl
theorem cl_info (f : Nat → UInt8) : (Tryz.prog.info? 145).map (·.size) = some (cl 16 (by8 f)).length := by rw [cl_length]; exact info40
theorem Row.range {w : World} {g n : Nat} {t : TypeId} {V : Nat → Value} (h : Row w g n t V) : w.rangeAt g 0 (cl n V) := by
  intro j v hv
  have hj : j < n := by
    have := (List.getElem?_eq_some_iff.1 hv).1
    rwa [cl_length] at this
  have : (cl n V)[j]? = some (V j) := by simp [cl, hj]
  rw [this] at hv
  rw [Nat.zero_add, h.cell j hj]; exact hv
theorem Row.there {w : World} {g n : Nat} {t : TypeId} {V : Nat → Value} (h : Row w g n t V) : w.there g 0 n := by
  intro j hj
  rw [Nat.zero_add, h.cell j hj, h.frozen]
  exact ⟨rfl, rfl⟩
def prodSt (f g : Nat → UInt8) : St := runT (pk f 8) (pk (fun j => f (8 + j)) 8) ⟨0, 0, pk g 8, pk (fun j => g (8 + j)) 8⟩ 2
def prod (f g : Nat → UInt8) : Nat → UInt8 := upk (prodSt f g).sH (prodSt f g).sL
theorem times_cl (f g : Nat → UInt8) (w : World) :
    Calls Tryz.prog 155 #[.agg #[.int .u64 (pk f 8).toNat, .int .u64 (pk (fun j => f (8 + j)) 8).toNat], .agg #[.int .u64 (pk g 8).toNat, .int .u64 (pk (fun j => g (8 + j)) 8).toNat]] w fun e w' =>
      e = .returned (.agg #[.int .u64 (prodSt f g).sH.toNat, .int .u64 (prodSt f g).sL.toNat]) ∧ Below w.heap.size w w' := times_any _ _ _ _ w

structure S3 (w0 w : World) (n : Nat) (f g : Nat → UInt8) : Prop where
  r0 : Row w n 16 145 (by8 f)
  r1 : Row w (n + 1) 16 145 (by8 g)
  r2 : Row w (n + 1 + 1) 16 145 z8
  b : Below n w0 w

def Ld40 (v : Value) : Sem Value := Instr.loadAt 145 v
theorem ld40_wrap (v : Value) : Instr.loadAt 145 v = Ld40 v := rfl
def ldOrig (P : Program) (g : Nat) (w : World) : Result Value := Sem.run P (Instr.loadAt 145 (.pointer (some ⟨g, 0, none⟩))) w
def stOrig (P : Program) (v : Value) (g : Nat) (w : World) : Result Unit := Sem.run P (Instr.storeAt 145 (.pointer (some ⟨g, 0, none⟩)) v) w
def ldRes (o : Option Obj) (w : World) (r : Result Value) : Result Value :=
  match o with
  | some (.cells cs t fr) => if cs.size = 16 ∧ t = 145 ∧ fr = (0, 0) then .ok (.agg cs) w else r
  | _ => r
def blk (w : World) (g : Nat) : Option Obj := w.heap[g]?
theorem run_ld40 (g : Nat) (w : World) : Sem.run Tryz.prog (Ld40 (.pointer (some ⟨g, 0, none⟩))) w = ldRes (blk w g) w (ldOrig Tryz.prog g w) := by
  unfold ldRes blk
  split
  · rename_i cs t fr h
    split
    · rename_i hc
      obtain ⟨h1, rfl, rfl⟩ := hc
      show Sem.run Tryz.prog (Instr.loadAt 145 (.pointer (some ⟨g, 0, none⟩))) w = _
      simp only [Instr.loadAt, Instr.sureAddr, Sem.run_bind, Sem.run_pure, Result.andThen_ok]
      exact run_loadVar_row w g 145 145 _ (0, 0) _ h Tryz.underlying145 rfl (by rw [h1]; exact info40)
    · rfl
  · rfl
theorem ldRes_row (V : Nat → Value) (w : World) (r : Result Value) : ldRes (some (.cells (arr 16 V) 145 (0, 0))) w r = .ok (.agg (arr 16 V)) w := by
  simp [ldRes, arr_size]
def St40 (p v : Value) : Sem Unit := Instr.storeAt 145 p v
theorem st40_wrap (p v : Value) : Instr.storeAt 145 p v = St40 p v := rfl
def stRes (o : Option Obj) (v : Value) (g : Nat) (w : World) (r : Result Unit) : Result Unit :=
  match o, v with
  | some (.cells cs t fr), .agg cs' => if cs.size = 16 ∧ t = 145 ∧ fr = (0, 0) ∧ cs'.size = 16 ∧ cs'.all (·.oneCell') = true then .ok () (w.setRow g cs') else r
  | _, _ => r
theorem run_st40 (g : Nat) (v : Value) (w : World) : Sem.run Tryz.prog (St40 (.pointer (some ⟨g, 0, none⟩)) v) w = stRes (blk w g) v g w (stOrig Tryz.prog v g w) := by
  unfold stRes blk
  split
  · rename_i cs t fr cs' h
    split
    · rename_i hc
      obtain ⟨h1, rfl, rfl, h2, h3⟩ := hc
      show Sem.run Tryz.prog (Instr.storeAt 145 (.pointer (some ⟨g, 0, none⟩)) (.agg cs')) w = _
      simp only [Instr.storeAt, Instr.sureAddr, Sem.run_bind, Sem.run_pure, Result.andThen_ok]
      exact run_storeVar_row w g 145 145 _ _ h (by rw [h2]; exact info40) (by rw [h1, h2]) h3
    · rfl
  · rfl
theorem stRes_row (V : Nat → Value) (f : Nat → UInt8) (g : Nat) (w : World) (r : Result Unit) : stRes (some (.cells (arr 16 V) 145 (0, 0))) (.agg (arr 16 (by8 f))) g w r = .ok () (w.setRow g (arr 16 (by8 f))) := by
  have h := one8 16 f
  have hc : (arr 16 V).size = 16 ∧ (145 : Nat) = 145 ∧ ((0, 0) : Nat × Nat) = (0, 0) ∧ (arr 16 (by8 f)).size = 16 ∧ (arr 16 (by8 f)).all (·.oneCell') = true := ⟨arr_size _ _, rfl, rfl, arr_size _ _, h⟩
  unfold stRes
  exact if_pos hc
theorem stRes_z (V : Nat → Value) (g : Nat) (w : World) (r : Result Unit) : stRes (some (.cells (arr 16 V) 145 (0, 0))) (.agg (arr 16 z8)) g w r = .ok () (w.setRow g (arr 16 z8)) := stRes_row V _ g w r
theorem heap_pos {w : World} {g n : Nat} {t : TypeId} {V : Nat → Value} (h : Row w g n t V) : blk w g = some (.cells (arr n V) t (0, 0)) := h
theorem z16_lit : (#[.int .u8 0, .int .u8 0, .int .u8 0, .int .u8 0, .int .u8 0, .int .u8 0, .int .u8 0, .int .u8 0, .int .u8 0, .int .u8 0, .int .u8 0, .int .u8 0, .int .u8 0, .int .u8 0, .int .u8 0, .int .u8 0] : Array Value) = arr 16 z8 := rfl
theorem blk_new (w : World) (o : Obj) : blk (w.alloc o) w.heap.size = some o := Go.heap_alloc_new w o
theorem blk_at (w : World) (o : Obj) (g : Nat) (h : g = w.heap.size) : blk (w.alloc o) g = some o := by subst h; exact blk_new w o
theorem blk_old (w : World) (o : Obj) (g : Nat) (h : g < w.heap.size) : blk (w.alloc o) g = blk w g := Below.heap_alloc w o g h
theorem blk_drew (w : World) (g : Nat) : blk w.drew g = blk w g := rfl
theorem blk_setCell (w : World) (b o g : Nat) (v : Value) (h : ¬ g = b) : blk (w.setCell ⟨b, o, none⟩ v) g = blk w g := heap_skip w b g o v h
theorem blk_setRow (w : World) (b g : Nat) (cs : Array Value) (h : ¬ g = b) : blk (w.setRow b cs) g = blk w g := Go.setRow_other w b g cs h
theorem alloc_setRow (w : World) (cs cs' : Array Value) (t : TypeId) : (w.alloc (.cells cs t)).setRow w.heap.size cs' = w.alloc (.cells cs' t) := by
  have h := Go.heap_alloc_new w (.cells cs t)
  unfold World.setRow World.alloc
  congr 1
  apply Array.ext
  · simp
  · intro i h1 h2
    simp only [Array.getElem_modify, Array.getElem_push]
    by_cases hi : i = w.heap.size
    · subst hi; simp
    · have h3 : ¬ w.heap.size = i := fun e => hi e.symm
      have h4 : i < w.heap.size := by
        simp only [Array.size_push] at h2
        omega
      simp [h3, h4]
attribute [local go_sem ↓] ld40_wrap st40_wrap
attribute [local go_sem] run_ld40 run_st40 ldRes_row stRes_row stRes_z z16_lit blk_new blk_old blk_drew blk_setCell blk_setRow alloc_setRow

theorem S3.drew {w0 w : World} {n : Nat} {f g : Nat → UInt8} (h : S3 w0 w n f g) : S3 w0 w.drew n f g := ⟨h.r0, h.r1, h.r2, h.b.drew⟩
theorem S3.keep {w0 w w1 : World} {n : Nat} {f g : Nat → UInt8} (h : S3 w0 w n f g) (hb : Below w.heap.size w w1) : S3 w0 w1 n f g :=
  ⟨h.r0.keep hb h.r0.lt, h.r1.keep hb h.r1.lt, h.r2.keep hb h.r2.lt, h.b.trans (hb.mono (Nat.le_of_lt h.r0.lt))⟩
set_option maxRecDepth 100000 in
set_option maxHeartbeats 800000 in
theorem btimes_any (f g : Nat → UInt8) (w : World) :
    Calls Tryz.prog 145 #[.agg (arr 16 (by8 f)), .agg (arr 16 (by8 g))] w fun e w' =>
      e = .returned (.agg (arr 16 (by8 (prod f g)))) ∧ Below w.heap.size w w' := by
  go_enter Tryz.func145, Tryz.ntmps145
  go_wp2
  suffices H : ∀ W, S3 w W w.heap.size f g → Code.wp Tryz.prog _ _ _ W from H _ ⟨((Row.new _ _ _ _ _ rfl).alloc _).alloc _, (Row.new _ _ _ _ _ (by simp)).alloc _, Row.lit _ _ _ _ _ _ (by simp) rfl, (((Below.refl _ _).alloc (Nat.le_refl _) _).alloc (by simp) _).alloc (by simp; omega) _⟩
  intro W hS
  have r0 := heap_pos hS.r0
  have r1 := heap_pos hS.r1
  have r2 := heap_pos hS.r2
  go_region_with (first
    | (go_at_call 154; refine (polyOf_any _ _).mono ?_; rintro e w1 ⟨rfl, hb1⟩; first | (have hS := hS.keep hb1) | (have hS := hS.drew.keep hb1); have r0 := heap_pos hS.r0; have r1 := heap_pos hS.r1; have r2 := heap_pos hS.r2)
    | (go_at_call 155; refine (times_cl f g _).mono ?_; rintro e w1 ⟨rfl, hb1⟩; have hS := hS.keep hb1; have r2 := heap_pos hS.r2)
    | (go_at_call 156; refine (pblock_any _ _ _).mono ?_; rintro e w1 ⟨rfl, hb1⟩; have hS := hS.keep hb1; have r2 := heap_pos hS.r2))
  all_goals
    go_wp2
    refine bodyPost_ret (res40 Tryz.results145 _ _ (w.heap.size + 1 + 1) _ rfl hS.r2.setRow) rfl ⟨rfl, ?_⟩
    exact Below.setRow hS.b (by omega) _

end Go.Proofs.YtgalgjmhdbncbaaGreat
namespace Go.Proofs.YtgalgjmhdbncbaaGreat
open Go.RowKit
def Al (t : TypeId) : Sem Value := Instr.alloc t true (.tuple #[])
theorem al40 : Instr.alloc 145 true (.tuple #[]) = Al 145 := rfl
theorem al50 : Instr.alloc 206 true (.tuple #[]) = Al 206 := rfl
theorem al60 : Instr.alloc 217 true (.tuple #[]) = Al 217 := rfl
theorem al62 : Instr.alloc 219 true (.tuple #[]) = Al 219 := rfl
theorem al63 : Instr.alloc 220 true (.tuple #[]) = Al 220 := rfl
theorem al52 : Instr.alloc 208 true (.tuple #[]) = Al 208 := rfl
theorem run_al40 (w : World) : Sem.run Tryz.prog (Al 145) w = .ok (.pointer (some ⟨w.heap.size, 0, none⟩)) (w.alloc (.cells (arr 16 z8) 145)) := by kernel_rfl
theorem run_al63 (w : World) : Sem.run Tryz.prog (Al 220) w = .ok (.pointer (some ⟨w.heap.size, 0, none⟩)) (w.alloc (.cells (arr 4 z8) 220)) := by kernel_rfl
theorem run_al50 (w : World) : Sem.run Tryz.prog (Al 206) w = .ok (.pointer (some ⟨w.heap.size, 0, none⟩)) (w.alloc (.cells (arr 256 z8) 206)) := by kernel_rfl
theorem run_al60 (w : World) : Sem.run Tryz.prog (Al 217) w = .ok (.pointer (some ⟨w.heap.size, 0, none⟩)) (w.alloc (.cells (arr 255 z8) 217)) := by kernel_rfl
theorem run_al62 (w : World) : Sem.run Tryz.prog (Al 219) w = .ok (.pointer (some ⟨w.heap.size, 0, none⟩)) (w.alloc (.cells (arr 240 z8) 219)) := by kernel_rfl
theorem run_al52 (w : World) : Sem.run Tryz.prog (Al 208) w = .ok (.pointer (some ⟨w.heap.size, 0, none⟩)) (w.alloc (.cells (arr 240 z8) 208)) := by kernel_rfl

def Bd (t : TypeId) (ps : Array (Nat × Value)) : Sem Value := Instr.build t ps
theorem bd50 (ps : Array (Nat × Value)) : Instr.build 206 ps = Bd 206 ps := rfl
theorem bd55 (ps : Array (Nat × Value)) : Instr.build 211 ps = Bd 211 ps := rfl
theorem run_bd50 (b : UInt8) (w : World) : Sem.run Tryz.prog (Bd 206 #[(0, .int .u8 b.toNat)]) w = .ok (.agg (arr 256 (by8 fun j => if j = 0 then b else 0))) w := by kernel_rfl
def ciph (r : Nat) (ks bx : Nat → UInt8) (j : Nat) : Value := if j = 0 then .int .i64 r else if j < 241 then by8 ks (j - 1) else by8 bx (j - 241)
theorem run_bd55 (r : Nat) (ks bx : Nat → UInt8) (w : World) : Sem.run Tryz.prog (Bd 211 #[(0, .int .i64 r), (1, .agg (arr 240 (by8 ks))), (2, .agg (arr 256 (by8 bx)))]) w = .ok (.agg (arr 497 (ciph r ks bx))) w := by kernel_rfl
end Go.Proofs.YtgalgjmhdbncbaaGreat
namespace Go.Proofs.YtgalgjmhdbncbaaGreat
open Go.RowKit
attribute [local go_sem ↓] Go.wp_at_zero Go.wp_at_succ
attribute [local go_sem ↓] ld40_wrap st40_wrap
attribute [local go_sem] run_ld40 run_st40 ldRes_row stRes_row stRes_z z16_lit blk_new blk_old blk_drew blk_setCell blk_setRow alloc_setRow

def hashN (h s : Nat → UInt8) : Nat → Nat → UInt8
  | 0 => fun _ => 0
  | k + 1 => prod (fun j => hashN h s k j ^^^ s (16 * k + j)) h

def strLen : Value → Nat
  | .string s => s.size
  | _ => 0

set_option maxHeartbeats 400000 in
theorem bhash_no (h : Nat → UInt8) (s : ByteArray) (w : World) (hs : s.size ≤ maxLen) (hn : s.size % 16 ≠ 0) :
    Calls Tryz.prog 124 #[.agg (arr 16 (by8 h)), .string s] w fun e w' =>
      e = .returned (.tuple #[.agg (arr 16 z8), .bool false]) ∧ Below w.heap.size w w' := by
  unfold maxLen at hs
  have hm : (((s.size : Int) % 16) != 0) = true := by rw [bne_iff_ne]; omega
  have R1 : Hid _ := (Row.new (w.alloc (.cells (arr 16 (by8 h)) 145)) 16 145 z8 (w.heap.size + 1) (by simp)).alloc (.cells (arr 16 z8) 145)
  have R2 : Hid _ := Row.new ((w.alloc (.cells (arr 16 (by8 h)) 145)).alloc (.cells (arr 16 z8) 145)) 16 145 z8 (w.heap.size + 1 + 1) (by simp)
  have B1 : Hid _ := ((((Below.refl w.heap.size w).alloc (Nat.le_refl _) (.cells (arr 16 (by8 h)) 145)).alloc (by simp) (.cells (arr 16 z8) 145)).alloc (by simp; omega) (.cells (arr 16 z8) 145))
  go_enter Tryz.func124, Tryz.ntmps124
  go_wp2_with (first
    | (refine ld40 rfl _ rfl _ rfl _ R2 ?_)
    | (refine st40' rfl _ _ rfl _ _ rfl rfl _ R1 ?_; intro w2 hc2 r4))
  refine bodyPost_ret (v := .tuple #[.agg (arr 16 z8), .bool false]) (res40b Tryz.results124 _ _ (w.heap.size + 1) _ _ rfl rfl r4) rfl ⟨rfl, ?_⟩
  exact Below.chg B1 hc2 (by omega)

theorem bytes_isEmpty (t : ByteArray) : t.toList.isEmpty = (t.size == 0) := by
  rw [ByteArray.toList_eq]
  cases t with
  | mk d => cases d with | mk l => cases l <;> rfl
theorem cut_size (s : ByteArray) (i j : Nat) (h : j ≤ s.size) : (s.extract i j).size = j - i := by simp; omega
theorem sf_cut (s : ByteArray) (i j x : Nat) (h : j ≤ s.size) (hx : i + x < j) : sf (s.extract i j) x = sf s (i + x) := by
  simp only [sf]
  rw [show (s.extract i j).data = s.data.extract i j from by simp]
  have h1 : x < (s.data.extract i j).size := by simp; have : s.size = s.data.size := rfl; omega
  have h2 : i + x < s.data.size := by have : s.size = s.data.size := rfl; omega
  have h3 : x < min j s.size - i := by omega
  have h4 : i + x < s.size := h2
  simp [Array.getD, h3, h4]
structure SH (w0 w : World) (n : Nat) (h y : Nat → UInt8) : Prop where
  r0 : Row w n 16 145 (by8 h)
  r1 : Row w (n + 1) 16 145 z8
  r2 : Row w (n + 1 + 1) 16 145 (by8 y)
  b : Below n w0 w

theorem SH.keep {w0 w w1 : World} {n : Nat} {f g : Nat → UInt8} (h : SH w0 w n f g) (hb : Below w.heap.size w w1) : SH w0 w1 n f g :=
  ⟨h.r0.keep hb h.r0.lt, h.r1.keep hb h.r1.lt, h.r2.keep hb h.r2.lt, h.b.trans (hb.mono (Nat.le_of_lt h.r0.lt))⟩
theorem SH.alloc {w0 w : World} {n : Nat} {f g : Nat → UInt8} (h : SH w0 w n f g) (o : Obj) : SH w0 (w.alloc o) n f g :=
  ⟨h.r0.alloc o, h.r1.alloc o, h.r2.alloc o, h.b.alloc (Nat.le_of_lt h.r0.lt) o⟩
structure SN (w0 w : World) (n m : Nat) (h y x : Nat → UInt8) : Prop where
  s : SH w0 w n h y
  r : Row w m 16 145 (by8 x)
theorem SN.drew {w0 w : World} {n m : Nat} {h y x : Nat → UInt8} (a : SN w0 w n m h y x) : SN w0 w.drew n m h y x := ⟨⟨a.s.r0, a.s.r1, a.s.r2, a.s.b.drew⟩, a.r⟩
theorem SN.keep {w0 w w1 : World} {n m : Nat} {h y x : Nat → UInt8} (a : SN w0 w n m h y x) (hb : Below w.heap.size w w1) : SN w0 w1 n m h y x := ⟨a.s.keep hb, a.r.keep hb a.r.lt⟩
theorem pk_congr {f g : Nat → UInt8} : ∀ n, (∀ j, j < n → f j = g j) → pk f n = pk g n
  | 0, _ => rfl
  | n + 1, h => by
    simp only [pk]
    rw [pk_congr n (fun j hj => h j (by omega)), h n (by omega)]
theorem prod_congr {f f' g g' : Nat → UInt8} (h : ∀ j, j < 16 → f j = f' j) (h' : ∀ j, j < 16 → g j = g' j) : prod f g = prod f' g' := by
  unfold prod prodSt
  rw [pk_congr 8 (fun j hj => h j (by omega)), pk_congr 8 (fun j hj => h' j (by omega)), pk_congr (f := fun j => f (8 + j)) (g := fun j => f' (8 + j)) 8 (fun j hj => h (8 + j) (by omega)),
    pk_congr (f := fun j => g (8 + j)) (g := fun j => g' (8 + j)) 8 (fun j hj => h' (8 + j) (by omega))]
theorem hashN_succ (h s : Nat → UInt8) (k : Nat) (x : Nat → UInt8) (hx : ∀ j, j < 16 → x j = s (16 * k + j)) : prod (fun j => hashN h s k j ^^^ x j) h = hashN h s (k + 1) := by
  show _ = prod (fun j => hashN h s k j ^^^ s (16 * k + j)) h
  exact prod_congr (fun j hj => by rw [hx j hj]) (fun _ _ => rfl)
theorem cut_cut (s : ByteArray) (k : Nat) : (s.extract (16 * k) s.size).extract 16 (s.size - 16 * k) = s.extract (16 * (k + 1)) s.size := by
  rw [ByteArray.extract_extract]
  congr 1
  omega
theorem round_end (w w3 : World) (n m : Nat) (h x : Nat → UInt8) (s : ByteArray) (k : Nat) (y : Nat → UInt8) (hk : 16 * k + 16 ≤ s.size) (hS : SN w w3 n m h (hashN h (sf s) k) x) (hy : y = hashN h (sf s) (k + 1)) :
    (∃ k_1, 16 * k_1 ≤ s.size ∧ Value.string ((s.extract (16 * k) s.size).extract 16 (s.size - 16 * k)) = Value.string (s.extract (16 * k_1) s.size) ∧
      SH w (w3.setRow (n + 1 + 1) (arr 16 (by8 y))) n h (hashN h (sf s) k_1)) ∧
    strLen (Value.string ((s.extract (16 * k) s.size).extract 16 (s.size - 16 * k))) < strLen (Value.string (s.extract (16 * k) s.size)) := by
  subst hy
  rw [cut_cut]
  refine ⟨⟨k + 1, by omega, rfl, ⟨hS.s.r0.setRow_other (by omega), hS.s.r1.setRow_other (by omega), hS.s.r2.setRow, Below.setRow hS.s.b (by omega) _⟩⟩, ?_⟩
  simp only [strLen]
  rw [cut_size _ _ _ (Nat.le_refl _), cut_size _ _ _ (Nat.le_refl _)]
  omega

set_option maxHeartbeats 400000 in
theorem bhash_yes (h : Nat → UInt8) (s : ByteArray) (w : World) (hs : s.size ≤ maxLen) (hn : s.size % 16 = 0) :
    Calls Tryz.prog 124 #[.agg (arr 16 (by8 h)), .string s] w fun e w' =>
      e = .returned (.tuple #[.agg (arr 16 (by8 (hashN h (sf s) (s.size / 16)))), .bool true]) ∧ Below w.heap.size w w' := by
  unfold maxLen at hs
  have hm : (((s.size : Int) % 16) != 0) = false := by rw [bne_eq_false_iff_eq]; omega
  go_enter Tryz.func124, Tryz.ntmps124
  go_wp2
  go_loopw [1] (fun t wr => ∃ k : Nat, 16 * k ≤ s.size ∧ t = .string (s.extract (16 * k) s.size) ∧ SH w wr w.heap.size h (hashN h (sf s) k)) (fun t _ => strLen t)
  case atStart =>
    refine ⟨0, by omega, by simp, ⟨?_, ?_, ?_, ?_⟩⟩
    · exact ((Row.new _ _ _ _ _ rfl).alloc _).alloc _
    · have h := Row.new (w.alloc (.cells (arr 16 (by8 h)) 145)) 16 145 z8 (w.heap.size + 1) (by simp)
      exact h.alloc _
    · exact Row.lit _ _ _ z8 _ _ (by simp) rfl
    · exact ((((Below.refl _ _).alloc (Nat.le_refl _) _).alloc (by simp) _).alloc (by simp; omega) _)
  case round =>
    obtain ⟨k, hk, rfl, hS⟩ := hrel
    by_cases hlt : 16 * k < s.size
    · have hk16 : 16 * k + 16 ≤ s.size := by omega
      have hem : (s.extract (16 * k) s.size).toList.isEmpty = false := by rw [bytes_isEmpty, cut_size _ _ _ (Nat.le_refl _)]; simp; omega
      go_wp2_with fail
      refine (of_yes _ _ ?_).mono ?_
      · rw [cut_size _ _ _ (by rw [cut_size _ _ _ (Nat.le_refl _)]; omega)]
      rintro e w1 ⟨rfl, hb1⟩
      have hS1 := hS.keep hb1
      have hx : ∀ j, j < 16 → sf ((s.extract (16 * k) s.size).extract 0 16) j = sf s (16 * k + j) := by
        intro j hj
        rw [sf_cut _ _ _ _ (by rw [cut_size _ _ _ (Nat.le_refl _)]; omega) (by omega), sf_cut _ _ _ _ (Nat.le_refl _) (by omega), Nat.zero_add]
      have HX : Hid (prod (fun j => hashN h (sf s) k j ^^^ sf ((s.extract (16 * k) s.size).extract 0 16) j) h = hashN h (sf s) (k + 1)) := hashN_succ h (sf s) k _ hx
      clear hx hS hb1
      go_wp2_with fail
      suffices H : ∀ W, SN w W w.heap.size w1.heap.size h (hashN h (sf s) k) (sf ((s.extract (16 * k) s.size).extract 0 16)) → Code.wp Tryz.prog _ _ _ W from H _ ⟨hS1.alloc _, Row.new _ _ _ _ _ rfl⟩
      intro W hS
      have hmm : w.heap.size + 1 + 1 < w1.heap.size := hS1.r2.lt
      clear hS1
      have r0 := heap_pos hS.s.r0
      have r2 := heap_pos hS.s.r2
      have r3 := heap_pos hS.r
      go_region_with (first
        | (go_at_call 135; refine (bxor_any _ _ _).mono ?_; rintro e w2 ⟨rfl, hb2⟩; have hS := hS.drew.keep hb2; have r0 := heap_pos hS.s.r0; have r2 := heap_pos hS.s.r2)
        | (go_at_call 145; refine (btimes_any _ _ _).mono ?_; rintro e w3 ⟨rfl, hb3⟩; have hS := hS.keep hb3; have r2 := heap_pos hS.s.r2))
      all_goals
        go_wp2
        exact round_end _ _ _ _ _ _ _ _ _ hk16 hS HX
    · have hem : (s.extract (16 * k) s.size).toList.isEmpty = true := by rw [bytes_isEmpty, cut_size _ _ _ (Nat.le_refl _)]; simp; omega
      have r2 := heap_pos hS.r2
      have r1 := heap_pos hS.r1
      go_wp2
      have hk2 : k = s.size / 16 := by omega
      refine bodyPost_ret (v := .tuple #[.agg (arr 16 (by8 (hashN h (sf s) k))), .bool true]) (res40b Tryz.results124 _ _ (w.heap.size + 1) _ _ rfl rfl hS.r1.setRow) rfl ⟨by rw [hk2], ?_⟩
      exact Below.setRow hS.b (by omega) _

set_option maxHeartbeats 400000 in
theorem chash_key (h s : ByteArray) (w : World) (hh : h.size ≠ 16) :
    Calls Tryz.prog 91 #[.string h, .string s] w fun e w' => e = .returned (.tuple #[.string ⟨#[]⟩, .int .i64 2]) ∧ Below w.heap.size w w' := by
  go_enter Tryz.func91, Tryz.ntmps91
  go_wp2_with fail
  refine (of_no _ _ hh).mono ?_
  rintro e w1 ⟨rfl, hb1⟩
  go_wp2
  go_ret2
  exact ⟨rfl, hb1.alloc hb1.size _⟩

set_option maxHeartbeats 400000 in
theorem chash_size (h s : ByteArray) (w : World) (hh : h.size = 16) (hs : s.size ≤ maxLen) (hn : s.size % 16 ≠ 0) :
    Calls Tryz.prog 91 #[.string h, .string s] w fun e w' => e = .returned (.tuple #[.string ⟨#[]⟩, .int .i64 5]) ∧ Below w.heap.size w w' := by
  have HH : Hid _ := hh
  have HN : Hid _ := hn
  clear hh hn
  go_enter Tryz.func91, Tryz.ntmps91
  go_wp2_with fail
  refine (of_yes _ _ HH).mono ?_
  rintro e w1 ⟨rfl, hb1⟩
  go_wp2_with fail
  refine (bhash_no _ _ _ hs HN).mono ?_
  rintro e w2 ⟨rfl, hb2⟩
  go_wp2
  go_ret2
  exact ⟨rfl, ((hb1.alloc hb1.size _).trans (hb2.mono (by have := hb1.size; simp; omega))).alloc (by have := hb1.size; have := hb2.size; simp at *; omega) _⟩

set_option maxHeartbeats 400000 in
theorem chash_ok (h s : ByteArray) (w : World) (hh : h.size = 16) (hs : s.size ≤ maxLen) (hn : s.size % 16 = 0) :
    Calls Tryz.prog 91 #[.string h, .string s] w fun e w' => e = .returned (.tuple #[.string (str 16 (hashN (sf h) (sf s) (s.size / 16))), .int .i64 0]) ∧ Below w.heap.size w w' := by
  have HH : Hid _ := hh
  have HN : Hid _ := hn
  clear hh hn
  go_enter Tryz.func91, Tryz.ntmps91
  go_wp2_with fail
  refine (of_yes _ _ HH).mono ?_
  rintro e w1 ⟨rfl, hb1⟩
  go_wp2_with fail
  refine (bhash_yes _ _ _ hs HN).mono ?_
  rintro e w2 ⟨rfl, hb2⟩
  go_wp2_with fail
  refine (text_any _ _).mono ?_
  rintro e w3 ⟨rfl, hb3⟩
  go_wp2
  go_ret2
  exact ⟨rfl, (((hb1.alloc hb1.size _).trans (hb2.mono (by have := hb1.size; simp; omega))).alloc (by have := hb1.size; have := hb2.size; simp at *; omega) _).trans (hb3.mono (by have := hb1.size; have := hb2.size; simp at *; omega))⟩
end Go.Proofs.YtgalgjmhdbncbaaGreat
