import Derived.Test.YtgalgjmhdbncbaaN2
import Derived.Test.YtgalgjmhdbncbaaM6
namespace Go.Proofs.Ytgalgjmhdbncbaa
open Go.RowKit
attribute [local go_sem ↓] Go.wp_at_zero Go.wp_at_succ

/-! ### a key made ready -/
theorem bd40 (ps : Array (Nat × Value)) : Instr.build 53 ps = Bd 53 ps := rfl
theorem bd117 (ps : Array (Nat × Value)) : Instr.build 116 ps = Bd 116 ps := rfl
theorem run_bd40 (w : World) : Sem.run Try.prog (Bd 53 #[]) w = .ok (.agg (arr 16 z8)) w := by kernel_rfl
def modeV (gc : Nat) (h : Nat → UInt8) (j : Nat) : Value := if j = 0 then .pointer (some ⟨gc, 0, none⟩) else by8 h (j - 1)
theorem run_bd117 (gc : Nat) (h : Nat → UInt8) (w : World) : Sem.run Try.prog (Bd 116 #[(0, .pointer (some ⟨gc, 0, none⟩)), (1, .agg (arr 16 (by8 h)))]) w = .ok (.agg (arr 17 (modeV gc h))) w := by kernel_rfl
structure Mod (w : World) (g gc : Nat) (key : ByteArray) : Prop where
  r : Row w g 17 116 (modeV gc (hK key))
  c : Cip w gc (key.size / 4 + 6) (ksF (sf key) key.size)
theorem Mod.keep {w w1 : World} {g gc : Nat} {key : ByteArray} (h : Mod w g gc key) (hb : Below w.heap.size w w1) : Mod w1 g gc key := ⟨h.r.keep hb h.r.lt, h.c.keep hb⟩
theorem Mod.alloc {w : World} {g gc : Nat} {key : ByteArray} (h : Mod w g gc key) (o : Obj) : Mod (w.alloc o) g gc key := ⟨h.r.alloc o, Row.alloc h.c o⟩
theorem Mod.drew {w : World} {g gc : Nat} {key : ByteArray} (h : Mod w g gc key) : Mod w.drew g gc key := ⟨h.r, h.c⟩
theorem Mod.below {w w1 : World} {g gc B : Nat} {key : ByteArray} (h : Mod w g gc key) (hb : Below B w w1) (h1 : g < B) (h2 : gc < B) : Mod w1 g gc key := ⟨h.r.keep hb h1, Row.keep h.c hb h2⟩
theorem Mod.lt {w : World} {g gc : Nat} {key : ByteArray} (h : Mod w g gc key) : g < w.heap.size ∧ gc < w.heap.size := ⟨h.r.lt, Row.lt h.c⟩
theorem Mod.ptr {w : World} {g gc : Nat} {key : ByteArray} (h : Mod w g gc key) : w.cell? ⟨g, 0, none⟩ = some (.pointer (some ⟨gc, 0, none⟩)) := Row.cell h.r 0 (by omega)
attribute [local go_sem ↓] ldw40 stw40 al40 bd40 bd117
attribute [local go_sem] run_ldT40 ldN_row run_stT40 stN_row stN_z run_al40 run_bd40 run_bd117
attribute [local go_sem] blk_new blk_at blk_old blk_drew blk_setCell blk_setRow alloc_setRow

/-- a key's size -/
def KeyLen (n : Nat) : Prop := n = 16 ∨ n = 24 ∨ n = 32
theorem cip_z (gc : Nat) (key : ByteArray) (hk : KeyLen key.size) (w : World) (hc : Cip w gc (key.size / 4 + 6) (ksF (sf key) key.size)) :
    Calls Try.prog 37 #[.pointer (some ⟨gc, 0, none⟩), .agg (arr 16 z8)] w fun e w' => e = .returned (.agg (arr 16 (by8 (hK key)))) ∧ Below w.heap.size w w' := by
  unfold KeyLen at hk
  exact cipher_any gc _ _ (fun _ => 0) (by omega) (by omega) w hc
theorem cip_f (gc : Nat) (key : ByteArray) (hk : KeyLen key.size) (f : Nat → UInt8) (w : World) (hc : Cip w gc (key.size / 4 + 6) (ksF (sf key) key.size)) :
    Calls Try.prog 37 #[.pointer (some ⟨gc, 0, none⟩), .agg (arr 16 (by8 f))] w fun e w' => e = .returned (.agg (arr 16 (by8 (aesF (sf key) f key.size)))) ∧ Below w.heap.size w w' := by
  unfold KeyLen at hk
  exact cipher_any gc _ _ f (by omega) (by omega) w hc

set_option maxRecDepth 100000 in
set_option maxHeartbeats 1000000 in
theorem gnew_no (key : ByteArray) (hs : key.size ≤ maxLen) (hk : ¬ KeyLen key.size) (w : World) :
    Calls Try.prog 64 #[.string key] w fun e w' => e = .returned (.tuple #[.pointer none, .bool false]) ∧ w' = w := by
  have H : Hid _ := hk
  clear hk
  go_enter Try.func64, Try.ntmps64
  go_wp2_with fail
  refine (new_no key hs (fun e => H.out (.inl e)) (fun e => H.out (.inr (.inl e))) (fun e => H.out (.inr (.inr e))) _).mono ?_
  rintro e w1 ⟨rfl, hw⟩
  subst hw
  go_wp2
  go_ret2
  exact ⟨rfl, rfl⟩
set_option maxRecDepth 100000 in
set_option maxHeartbeats 1000000 in
theorem gnew_yes (key : ByteArray) (hs : key.size ≤ maxLen) (hk : KeyLen key.size) (w : World) :
    Calls Try.prog 64 #[.string key] w fun e w' => ∃ g gc, e = .returned (.tuple #[.pointer (some ⟨g, 0, none⟩), .bool true]) ∧ w.heap.size ≤ g ∧ w.heap.size ≤ gc ∧ Mod w' g gc key ∧ Below w.heap.size w w' := by
  have H : Hid _ := hk
  clear hk
  go_enter Try.func64, Try.ntmps64
  go_wp2_with fail
  refine (new_yes key hs H.out _).mono ?_
  rintro e w1 ⟨gc, rfl, hgc, hc, hb1⟩
  go_wp2_with fail
  refine (cip_z gc key H.out _ hc).mono ?_
  rintro e w2 ⟨rfl, hb2⟩
  have hc2 := hc.keep hb2
  go_wp2
  go_ret2
  have z1 := hb1.size
  have z2 := hb2.size
  exact ⟨w2.heap.size, gc, rfl, by omega, hgc, ⟨Row.new _ _ _ _ _ rfl, Row.alloc hc2 _⟩, (hb1.trans (hb2.mono z1)).alloc (by omega) _⟩
end Go.Proofs.Ytgalgjmhdbncbaa
