import Derived.Test.YtgalgjmhdbncbaaN10
namespace Go.Proofs.Ytgalgjmhdbncbaa
open Go.RowKit
attribute [local go_sem ↓] Go.wp_at_zero Go.wp_at_succ
attribute [local go_sem ↓] ldw40 stw40 al40
attribute [local go_sem] run_ldT40 ldN_row run_stT40 stN_row stN_z run_al40
attribute [local go_sem] blk_new blk_at blk_old blk_drew blk_setCell blk_setRow alloc_setRow

structure SP (w0 w : World) (B g gc a : Nat) (key : ByteArray) (t : Nat → UInt8) : Prop where
  m : Mod w g gc key
  r : Row w a 16 53 (by8 t)
  b : Below B w0 w
  l : B ≤ w.heap.size
theorem SP.drew {w0 w : World} {B g gc a : Nat} {key : ByteArray} {t : Nat → UInt8} (h : SP w0 w B g gc a key t) : SP w0 w.drew B g gc a key t := ⟨h.m.drew, h.r, h.b.drew, h.l⟩
theorem SP.keep {w0 w w1 : World} {B g gc a : Nat} {key : ByteArray} {t : Nat → UInt8} (h : SP w0 w B g gc a key t) (hb : Below w.heap.size w w1) : SP w0 w1 B g gc a key t :=
  ⟨h.m.keep hb, h.r.keep hb h.r.lt, h.b.trans (hb.mono h.l), Nat.le_trans h.l hb.size⟩
set_option maxRecDepth 100000 in
set_option maxHeartbeats 1000000 in
theorem open_mid (key n m p : ByteArray) (hs : key.size ≤ maxLen) (hk : KeyLen key.size) (hn : NonceLen n.size) (hm : m.size ≤ 200) (hp : 16 ≤ p.size) (hp2 : p.size ≤ 216) (v : Value) (x : ByteArray) (ok : Bool) (c : Int)
    (hc : v = .tuple #[.string x, .int .i64 c]) (hok : (ok = true ∧ c = 0) ∨ (ok = false ∧ c = 6 ∧ x = ⟨#[]⟩))
    (hO : ∀ (g gc : Nat) (w : World), Mod w g gc key → Calls Try.prog 48 #[.pointer (some ⟨g, 0, none⟩), .string n, .string m, .string (p.extract 0 (p.size - 16)), .agg (arr 16 (by8 (sf (p.extract (p.size - 16) p.size))))] w fun e w' => e = .returned (.tuple #[.string x, .bool ok]) ∧ Below w.heap.size w w') (w : World) :
    Calls Try.prog 25 #[.string key, .string n, .string m, .string p] w fun e w' => e = .returned v ∧ Below w.heap.size w w' := by
  subst hc
  have HK : Hid _ := hk
  have HN : Hid _ := hn
  obtain ⟨E, hE⟩ : ∃ E, p.size = E + 16 := ⟨p.size - 16, by omega⟩
  have hcut := cut_size p E p.size (Nat.le_refl _)
  rw [show p.size - 16 = E by omega] at hO
  have HO : Hid _ := hO
  have hi : ((p.size : Int) - 16) = (E : Int) := by omega
  have hE2 : (E : Int) ≤ (p.size : Int) := by omega
  have hE3 : E ≤ p.size := by omega
  have HC : Hid ((p.extract E p.size).size = 16) := by show _ = _; omega
  clear hk hn hO hcut hE
  go_enter Try.func25, Try.ntmps25
  go_wp2_with fail
  refine (ready_ok key n hs HK.out HN.out _).mono ?_
  rintro e w1 ⟨g, gc, rfl, hg, hgc, hM, hb⟩
  go_wp2_with fail
  refine (of_yes _ _ HC.out).mono ?_
  rintro e w2 ⟨rfl, b2⟩
  generalize ht : sf (p.extract E p.size) = t at *
  have S1 : SP w (w2.alloc (.cells (arr 16 (by8 t)) 53)) w.heap.size g gc w2.heap.size key t :=
    ⟨(hM.keep b2).alloc _, Row.new _ _ _ _ _ rfl, (hb.trans (b2.mono hb.size)).alloc (Nat.le_trans hb.size b2.size) _, by have := hb.size; have := b2.size; simp; omega⟩
  clear hM hb b2
  go_wp2_with fail
  suffices H : ∀ W, SP w W w.heap.size g gc w2.heap.size key t → Code.wp Try.prog _ _ _ W from H _ S1
  intro W hS
  clear S1
  have q1 := heap_pos hS.r
  go_region_with (first
    | (go_at_call 48; refine (HO.out g gc _ hS.drew.m).mono ?_; rintro e w3 ⟨rfl, b3⟩; have hS := hS.drew.keep b3))
  all_goals
    rcases hok with ⟨rfl, rfl⟩ | ⟨rfl, rfl, rfl⟩
    · go_wp2
      go_ret2
      exact ⟨rfl, hS.b⟩
    · go_wp2
      go_ret2
      exact ⟨rfl, hS.b⟩
/-- Open, of a right tag -/
theorem open_yes (key n m p : ByteArray) (hs : key.size ≤ maxLen) (hk : KeyLen key.size) (hn : NonceLen n.size) (hm : m.size ≤ 200) (hp : 16 ≤ p.size) (hp2 : p.size ≤ 216)
    (ht : str 16 (tagF key (firstF key n) m (p.extract 0 (p.size - 16))) = p.extract (p.size - 16) p.size) (w : World) :
    Calls Try.prog 25 #[.string key, .string n, .string m, .string p] w fun e w' => e = .returned (.tuple #[.string (maskT key (firstF key n) (p.extract 0 (p.size - 16))), .int .i64 0]) ∧ Below w.heap.size w w' := by
  have hz : (p.extract (p.size - 16) p.size).size = 16 := by rw [cut_size _ _ _ (Nat.le_refl _)]; omega
  have hz2 : (p.extract 0 (p.size - 16)).size ≤ 200 := by rw [cut_size _ _ _ (by omega)]; omega
  refine open_mid key n m p hs hk hn hm hp hp2 _ _ true 0 rfl (.inl ⟨rfl, rfl⟩) (fun g gc w hM => ?_) w
  exact mopen_yes g gc key n m _ _ hk hn.2 hm hz2 (by rw [str_sf _ _ hz]; exact ht) w hM
theorem open_no (key n m p : ByteArray) (hs : key.size ≤ maxLen) (hk : KeyLen key.size) (hn : NonceLen n.size) (hm : m.size ≤ 200) (hp : 16 ≤ p.size) (hp2 : p.size ≤ 216)
    (ht : str 16 (tagF key (firstF key n) m (p.extract 0 (p.size - 16))) ≠ p.extract (p.size - 16) p.size) (w : World) :
    Calls Try.prog 25 #[.string key, .string n, .string m, .string p] w fun e w' => e = .returned (.tuple #[.string ⟨#[]⟩, .int .i64 6]) ∧ Below w.heap.size w w' := by
  have hz : (p.extract (p.size - 16) p.size).size = 16 := by rw [cut_size _ _ _ (Nat.le_refl _)]; omega
  have hz2 : (p.extract 0 (p.size - 16)).size ≤ 200 := by rw [cut_size _ _ _ (by omega)]; omega
  refine open_mid key n m p hs hk hn hm hp hp2 _ _ false 6 rfl (.inr ⟨rfl, rfl, rfl⟩) (fun g gc w hM => ?_) w
  exact mopen_no g gc key n m _ _ hk hn.2 hm hz2 (by rw [str_sf _ _ hz]; exact ht) w hM
end Go.Proofs.Ytgalgjmhdbncbaa
