import Derived.Test.YtgalgjmhdbncbaaA4
import Derived.Deep.RegionHeld3
import Derived.Deep.MidRow
import Derived.Deep.DrawnRows
namespace Go.Proofs.Ytgalgjmhdbncbaa
open Go.RowKit
attribute [local go_sem ↓] Go.wp_at_zero Go.wp_at_succ

def cl (n : Nat) (V : Nat → Value) : List Value := (List.range n).map V
theorem cl_length (n : Nat) (V : Nat → Value) : (cl n V).length = n := by simp [cl]
theorem cl_one (n : Nat) (f : Nat → UInt8) : ∀ v ∈ cl n (by8 f), v.oneCell' = true := by
  intro v hv
  simp only [cl, List.mem_map] at hv
  obtain ⟨j, _, rfl⟩ := hv
  rfl
theorem cl_info (f : Nat → UInt8) : (Try.prog.info? 53).map (·.size) = some (cl 16 (by8 f)).length := by rw [cl_length]; exact info40
theorem Row.range {w : World} {g n : Nat} {t : TypeId} {V : Nat → Value} (h : Row w g n t V) : w.rangeAt g 0 (cl n V) := by
  intro j v hv
  have hj : j < n := by
    have := (List.getElem?_eq_some_iff.1 hv).1
    rwa [cl_length] at this
  have : (cl n V)[j]? = some (V j) := by simp [cl, hj]
  rw [this] at hv
  rw [Nat.zero_add, h.cell j hj]; exact hv
theorem Row.there {w : World} {g n : Nat} {t : TypeId} {V : Nat → Value} (h : Row w g n t V) : w.there g 0 n := by
  intro j hj
  rw [Nat.zero_add, h.cell j hj, h.frozen]
  exact ⟨rfl, rfl⟩
/-- the product of two blocks -/
def prodSt (f g : Nat → UInt8) : St := runT (pk f 8) (pk (fun j => f (8 + j)) 8) ⟨0, 0, pk g 8, pk (fun j => g (8 + j)) 8⟩ 2
def prod (f g : Nat → UInt8) : Nat → UInt8 := upk (prodSt f g).sH (prodSt f g).sL
theorem times_cl (f g : Nat → UInt8) (w : World) :
    Calls Try.prog 84 #[.agg #[.int .u64 (pk f 8).toNat, .int .u64 (pk (fun j => f (8 + j)) 8).toNat], .agg #[.int .u64 (pk g 8).toNat, .int .u64 (pk (fun j => g (8 + j)) 8).toNat]] w fun e w' =>
      e = .returned (.agg #[.int .u64 (prodSt f g).sH.toNat, .int .u64 (prodSt f g).sL.toNat]) ∧ Below w.heap.size w w' := times_any _ _ _ _ w

structure S3 (w0 w : World) (n : Nat) (f g : Nat → UInt8) : Prop where
  r0 : Row w n 16 53 (by8 f)
  r1 : Row w (n + 1) 16 53 (by8 g)
  r2 : Row w (n + 1 + 1) 16 53 z8
  b : Below n w0 w

def Ld40 (v : Value) : Sem Value := Instr.loadAt 53 v
theorem ld40_wrap (v : Value) : Instr.loadAt 53 v = Ld40 v := rfl
def ldOrig (P : Program) (g : Nat) (w : World) : Result Value := Sem.run P (Instr.loadAt 53 (.pointer (some ⟨g, 0, none⟩))) w
def stOrig (P : Program) (v : Value) (g : Nat) (w : World) : Result Unit := Sem.run P (Instr.storeAt 53 (.pointer (some ⟨g, 0, none⟩)) v) w
def ldRes (o : Option Obj) (w : World) (r : Result Value) : Result Value :=
  match o with
  | some (.cells cs t fr) => if cs.size = 16 ∧ t = 53 ∧ fr = (0, 0) then .ok (.agg cs) w else r
  | _ => r
/-- a block of memory, by a name that stays shut -/
def blk (w : World) (g : Nat) : Option Obj := w.heap[g]?
theorem run_ld40 (g : Nat) (w : World) : Sem.run Try.prog (Ld40 (.pointer (some ⟨g, 0, none⟩))) w = ldRes (blk w g) w (ldOrig Try.prog g w) := by
  unfold ldRes blk
  split
  · rename_i cs t fr h
    split
    · rename_i hc
      obtain ⟨h1, rfl, rfl⟩ := hc
      show Sem.run Try.prog (Instr.loadAt 53 (.pointer (some ⟨g, 0, none⟩))) w = _
      simp only [Instr.loadAt, Instr.sureAddr, Sem.run_bind, Sem.run_pure, Result.andThen_ok]
      exact run_loadVar_row w g 53 53 _ (0, 0) _ h Try.underlying53 rfl (by rw [h1]; exact info40)
    · rfl
  · rfl
theorem ldRes_row (V : Nat → Value) (w : World) (r : Result Value) : ldRes (some (.cells (arr 16 V) 53 (0, 0))) w r = .ok (.agg (arr 16 V)) w := by
  simp [ldRes, arr_size]
def St40 (p v : Value) : Sem Unit := Instr.storeAt 53 p v
theorem st40_wrap (p v : Value) : Instr.storeAt 53 p v = St40 p v := rfl
def stRes (o : Option Obj) (v : Value) (g : Nat) (w : World) (r : Result Unit) : Result Unit :=
  match o, v with
  | some (.cells cs t fr), .agg cs' => if cs.size = 16 ∧ t = 53 ∧ fr = (0, 0) ∧ cs'.size = 16 ∧ cs'.all (·.oneCell') = true then .ok () (w.setRow g cs') else r
  | _, _ => r
theorem run_st40 (g : Nat) (v : Value) (w : World) : Sem.run Try.prog (St40 (.pointer (some ⟨g, 0, none⟩)) v) w = stRes (blk w g) v g w (stOrig Try.prog v g w) := by
  unfold stRes blk
  split
  · rename_i cs t fr cs' h
    split
    · rename_i hc
      obtain ⟨h1, rfl, rfl, h2, h3⟩ := hc
      show Sem.run Try.prog (Instr.storeAt 53 (.pointer (some ⟨g, 0, none⟩)) (.agg cs')) w = _
      simp only [Instr.storeAt, Instr.sureAddr, Sem.run_bind, Sem.run_pure, Result.andThen_ok]
      exact run_storeVar_row w g 53 53 _ _ h (by rw [h2]; exact info40) (by rw [h1, h2]) h3
    · rfl
  · rfl
theorem stRes_row (V : Nat → Value) (f : Nat → UInt8) (g : Nat) (w : World) (r : Result Unit) : stRes (some (.cells (arr 16 V) 53 (0, 0))) (.agg (arr 16 (by8 f))) g w r = .ok () (w.setRow g (arr 16 (by8 f))) := by
  have h := one8 16 f
  have hc : (arr 16 V).size = 16 ∧ (53 : Nat) = 53 ∧ ((0, 0) : Nat × Nat) = (0, 0) ∧ (arr 16 (by8 f)).size = 16 ∧ (arr 16 (by8 f)).all (·.oneCell') = true := ⟨arr_size _ _, rfl, rfl, arr_size _ _, h⟩
  unfold stRes
  exact if_pos hc
theorem stRes_z (V : Nat → Value) (g : Nat) (w : World) (r : Result Unit) : stRes (some (.cells (arr 16 V) 53 (0, 0))) (.agg (arr 16 z8)) g w r = .ok () (w.setRow g (arr 16 z8)) := stRes_row V _ g w r
theorem heap_pos {w : World} {g n : Nat} {t : TypeId} {V : Nat → Value} (h : Row w g n t V) : blk w g = some (.cells (arr n V) t (0, 0)) := h
theorem z16_lit : (#[.int .u8 0, .int .u8 0, .int .u8 0, .int .u8 0, .int .u8 0, .int .u8 0, .int .u8 0, .int .u8 0, .int .u8 0, .int .u8 0, .int .u8 0, .int .u8 0, .int .u8 0, .int .u8 0, .int .u8 0, .int .u8 0] : Array Value) = arr 16 z8 := rfl
theorem blk_new (w : World) (o : Obj) : blk (w.alloc o) w.heap.size = some o := Go.heap_alloc_new w o
theorem blk_at (w : World) (o : Obj) (g : Nat) (h : g = w.heap.size) : blk (w.alloc o) g = some o := by subst h; exact blk_new w o
theorem blk_old (w : World) (o : Obj) (g : Nat) (h : g < w.heap.size) : blk (w.alloc o) g = blk w g := Below.heap_alloc w o g h
theorem blk_drew (w : World) (g : Nat) : blk w.drew g = blk w g := rfl
theorem blk_setCell (w : World) (b o g : Nat) (v : Value) (h : ¬ g = b) : blk (w.setCell ⟨b, o, none⟩ v) g = blk w g := heap_skip w b g o v h
theorem blk_setRow (w : World) (b g : Nat) (cs : Array Value) (h : ¬ g = b) : blk (w.setRow b cs) g = blk w g := Go.setRow_other w b g cs h
theorem alloc_setRow (w : World) (cs cs' : Array Value) (t : TypeId) : (w.alloc (.cells cs t)).setRow w.heap.size cs' = w.alloc (.cells cs' t) := by
  have h := Go.heap_alloc_new w (.cells cs t)
  unfold World.setRow World.alloc
  congr 1
  apply Array.ext
  · simp
  · intro i h1 h2
    simp only [Array.getElem_modify, Array.getElem_push]
    by_cases hi : i = w.heap.size
    · subst hi; simp
    · have h3 : ¬ w.heap.size = i := fun e => hi e.symm
      have h4 : i < w.heap.size := by
        simp only [Array.size_push] at h2
        omega
      simp [h3, h4]
attribute [local go_sem ↓] ld40_wrap st40_wrap
attribute [local go_sem] run_ld40 run_st40 ldRes_row stRes_row stRes_z z16_lit blk_new blk_old blk_drew blk_setCell blk_setRow alloc_setRow

theorem S3.drew {w0 w : World} {n : Nat} {f g : Nat → UInt8} (h : S3 w0 w n f g) : S3 w0 w.drew n f g := ⟨h.r0, h.r1, h.r2, h.b.drew⟩
theorem S3.keep {w0 w w1 : World} {n : Nat} {f g : Nat → UInt8} (h : S3 w0 w n f g) (hb : Below w.heap.size w w1) : S3 w0 w1 n f g :=
  ⟨h.r0.keep hb h.r0.lt, h.r1.keep hb h.r1.lt, h.r2.keep hb h.r2.lt, h.b.trans (hb.mono (Nat.le_of_lt h.r0.lt))⟩
set_option maxRecDepth 100000 in
set_option maxHeartbeats 800000 in
theorem btimes_any (f g : Nat → UInt8) (w : World) :
    Calls Try.prog 63 #[.agg (arr 16 (by8 f)), .agg (arr 16 (by8 g))] w fun e w' =>
      e = .returned (.agg (arr 16 (by8 (prod f g)))) ∧ Below w.heap.size w w' := by
  go_enter Try.func63, Try.ntmps63
  go_wp2
  suffices H : ∀ W, S3 w W w.heap.size f g → Code.wp Try.prog _ _ _ W from H _ ⟨((Row.new _ _ _ _ _ rfl).alloc _).alloc _, (Row.new _ _ _ _ _ (by simp)).alloc _, Row.lit _ _ _ _ _ _ (by simp) rfl, (((Below.refl _ _).alloc (Nat.le_refl _) _).alloc (by simp) _).alloc (by simp; omega) _⟩
  intro W hS
  have r0 := heap_pos hS.r0
  have r1 := heap_pos hS.r1
  have r2 := heap_pos hS.r2
  go_region_with (first
    | (go_at_call 83; refine (polyOf_any _ _).mono ?_; rintro e w1 ⟨rfl, hb1⟩; first | (have hS := hS.keep hb1) | (have hS := hS.drew.keep hb1); have r0 := heap_pos hS.r0; have r1 := heap_pos hS.r1; have r2 := heap_pos hS.r2)
    | (go_at_call 84; refine (times_cl f g _).mono ?_; rintro e w1 ⟨rfl, hb1⟩; have hS := hS.keep hb1; have r2 := heap_pos hS.r2)
    | (go_at_call 85; refine (pblock_any _ _ _).mono ?_; rintro e w1 ⟨rfl, hb1⟩; have hS := hS.keep hb1; have r2 := heap_pos hS.r2))
  all_goals
    go_wp2
    refine bodyPost_ret (res40 Try.results63 _ _ (w.heap.size + 1 + 1) _ rfl hS.r2.setRow) rfl ⟨rfl, ?_⟩
    exact Below.setRow hS.b (by omega) _

end Go.Proofs.Ytgalgjmhdbncbaa
