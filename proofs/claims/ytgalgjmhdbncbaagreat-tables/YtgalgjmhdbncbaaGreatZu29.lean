import Derived.Test.YtgalgjmhdbncbaaGreatZu27
import Derived.Test.YtgalgjmhdbncbaaGreatZu28
import Derived.Test.YtgalgjmhdbncbaaGreatZu00
import Derived.Test.YtgalgjmhdbncbaaGreatZu04
import Derived.Test.YtgalgjmhdbncbaaGreatZu21
import Derived.Deep.RegionHeld
namespace Go.Proofs.YtgalgjmhdbncbaaGreat
open Go.RowKit

theorem rxor_mask (key p : ByteArray) (J : Nat → UInt8) (hp : p.size ≤ 1000) (w : World) : Calls Tryz.prog 129 #[.string p, .string (str p.size (streamF key J))] w fun e w' => e = .returned (.string (maskT key J p)) ∧ Below w.heap.size w w' := by
  have h := rxor_ref p.size (sf p) (streamF key J) (by omega) w
  rw [str_sf p _ rfl] at h
  exact h
theorem not_key {n : Nat} (h : ¬ KeyLen n) : n ≠ 16 ∧ n ≠ 24 ∧ n ≠ 32 := ⟨fun e => h (.inl e), fun e => h (.inr (.inl e)), fun e => h (.inr (.inr e))⟩
set_option maxRecDepth 100000 in
set_option maxHeartbeats 1000000 in
theorem rSeal_key (key n m p : ByteArray) (hk : ¬ KeyLen key.size) (w : World) :
    Calls Tryz.prog 94 #[.string key, .string n, .string m, .string p] w fun e w' => e = .returned (.tuple #[.string ⟨#[]⟩, .int .i64 2]) ∧ Below w.heap.size w w' := by
  have HK : Hid _ := not_key hk
  clear hk
  go_enter Tryz.func94, Tryz.ntmps94
  go_wp2_with fail
  refine (rAlg_no key HK.out.1 HK.out.2.1 HK.out.2.2 _).mono ?_
  rintro e w1 ⟨rfl, hw⟩
  subst hw
  go_wp2
  go_ret2
  exact ⟨rfl, Below.refl _ _⟩
set_option maxRecDepth 100000 in
set_option maxHeartbeats 1000000 in
theorem rSeal_nonce (key n m p : ByteArray) (hk : KeyLen key.size) (hn : ¬ NonceLen n.size) (hz : n.size ≤ maxLen) (w : World) :
    Calls Tryz.prog 94 #[.string key, .string n, .string m, .string p] w fun e w' => e = .returned (.tuple #[.string ⟨#[]⟩, .int .i64 3]) ∧ Below w.heap.size w w' := by
  have HK : Hid _ := hk
  unfold maxLen at hz
  unfold NonceLen at hn
  clear hk
  by_cases h1 : n.size < 1
  · clear hn
    go_enter Tryz.func94, Tryz.ntmps94
    go_wp2_with fail
    refine (rAlg_yes key HK.out _).mono ?_
    rintro e w1 ⟨⟨a, ⟨ha, _⟩, rfl⟩, hw⟩
    subst hw
    have ha' : ((a : Int) == 0) = false := by rw [beq_eq_false_iff_ne]; omega
    go_wp2
    go_ret2
    exact ⟨rfl, Below.refl _ _⟩
  · have h2 : 40 < n.size := by omega
    clear hn
    go_enter Tryz.func94, Tryz.ntmps94
    go_wp2_with fail
    refine (rAlg_yes key HK.out _).mono ?_
    rintro e w1 ⟨⟨a, ⟨ha, _⟩, rfl⟩, hw⟩
    subst hw
    have ha' : ((a : Int) == 0) = false := by rw [beq_eq_false_iff_ne]; omega
    go_wp2
    go_ret2
    exact ⟨rfl, Below.refl _ _⟩
set_option maxRecDepth 100000 in
set_option maxHeartbeats 1000000 in
theorem rSeal_long (key n m p : ByteArray) (hk : KeyLen key.size) (hn : NonceLen n.size) (hl : 200 < m.size ∨ 200 < p.size) (hm : m.size ≤ maxLen) (hp : p.size ≤ maxLen) (w : World) :
    Calls Tryz.prog 94 #[.string key, .string n, .string m, .string p] w fun e w' => e = .returned (.tuple #[.string ⟨#[]⟩, .int .i64 4]) ∧ Below w.heap.size w w' := by
  have HK : Hid _ := hk
  obtain ⟨hn1, hn2⟩ := hn
  unfold maxLen at hm hp
  clear hk
  by_cases h1 : 200 < m.size
  · clear hl
    go_enter Tryz.func94, Tryz.ntmps94
    go_wp2_with fail
    refine (rAlg_yes key HK.out _).mono ?_
    rintro e w1 ⟨⟨a, ⟨ha, _⟩, rfl⟩, hw⟩
    subst hw
    have ha' : ((a : Int) == 0) = false := by rw [beq_eq_false_iff_ne]; omega
    go_wp2
    go_ret2
    exact ⟨rfl, Below.refl _ _⟩
  · have h2 : 200 < p.size := by omega
    clear hl
    go_enter Tryz.func94, Tryz.ntmps94
    go_wp2_with fail
    refine (rAlg_yes key HK.out _).mono ?_
    rintro e w1 ⟨⟨a, ⟨ha, _⟩, rfl⟩, hw⟩
    subst hw
    have ha' : ((a : Int) == 0) = false := by rw [beq_eq_false_iff_ne]; omega
    go_wp2
    go_ret2
    exact ⟨rfl, Below.refl _ _⟩
set_option maxRecDepth 100000 in
set_option maxHeartbeats 1000000 in
theorem rSeal_ok (key n m p : ByteArray) (hk : KeyLen key.size) (hn : NonceLen n.size) (hm : m.size ≤ 200) (hp : p.size ≤ 200) (w : World) :
    Calls Tryz.prog 94 #[.string key, .string n, .string m, .string p] w fun e w' => e = .returned (.tuple #[.string (sealT key n m p), .int .i64 0]) ∧ Below w.heap.size w w' := by
  have HK : Hid _ := hk
  obtain ⟨hn1, hn2⟩ := hn
  have hz := maskT_size key (firstF key n) p
  have hz2 := str_size 16 (tagF key (firstF key n) m (maskT key (firstF key n) p))
  have HT : Hid (sealT key n m p = maskT key (firstF key n) p ++ str 16 (tagF key (firstF key n) m (maskT key (firstF key n) p))) := rfl
  clear hk
  go_enter Tryz.func94, Tryz.ntmps94
  go_wp2_with fail
  refine (rAlg_yes key HK.out _).mono ?_
  rintro e w1 ⟨⟨a, ⟨ha, _⟩, rfl⟩, hw⟩
  subst hw
  have ha' : ((a : Int) == 0) = false := by rw [beq_eq_false_iff_ne]; omega
  go_wp2_with fail
  refine (first_ref key n HK.out (by omega) _).mono ?_
  rintro e w2 ⟨rfl, b2⟩
  go_wp2_with fail
  refine (stream_ref key (firstF key n) p.size HK.out (by omega) _).mono ?_
  rintro e w3 ⟨rfl, b3⟩
  go_wp2_with fail
  refine (rxor_mask key p (firstF key n) (by omega) _).mono ?_
  rintro e w4 ⟨rfl, b4⟩
  go_wp2_with fail
  refine (tag_ref key m _ (firstF key n) HK.out (by omega) (by omega) _).mono ?_
  rintro e w5 ⟨rfl, b5⟩
  go_wp2
  go_ret2
  have y2 := b2.size
  have y3 := b3.size
  have y4 := b4.size
  exact ⟨by rw [HT.out]; rfl, ((b2.trans (b3.mono (by omega))).trans (b4.mono (by omega))).trans (b5.mono (by omega))⟩
theorem sealBoth (key n m p : ByteArray) (hs : key.size ≤ maxLen) (hn : n.size ≤ maxLen) (hm : m.size ≤ maxLen) (hp : p.size ≤ maxLen) : ∃ (v : ByteArray) (c : Int),
    (∀ w, Calls Tryz.prog 93 #[.string key, .string n, .string m, .string p] w fun e w' => e = .returned (.tuple #[.string v, .int .i64 c]) ∧ Below w.heap.size w w') ∧
    (∀ w, Calls Tryz.prog 94 #[.string key, .string n, .string m, .string p] w fun e w' => e = .returned (.tuple #[.string v, .int .i64 c]) ∧ Below w.heap.size w w') := by
  by_cases hk : KeyLen key.size
  · by_cases h1 : NonceLen n.size
    · by_cases h2 : 200 < m.size ∨ 200 < p.size
      · exact ⟨_, _, fun w => seal_long key n m p hs hk h1 h2 hm hp w, fun w => rSeal_long key n m p hk h1 h2 hm hp w⟩
      · exact ⟨_, _, fun w => seal_ok key n m p hs hk h1 (by omega) (by omega) w, fun w => rSeal_ok key n m p hk h1 (by omega) (by omega) w⟩
    · exact ⟨_, _, fun w => seal_nonce key n m p hs hk h1 hn w, fun w => rSeal_nonce key n m p hk h1 hn w⟩
  · exact ⟨_, _, fun w => seal_key key n m p hs hk w, fun w => rSeal_key key n m p hk w⟩
end Go.Proofs.YtgalgjmhdbncbaaGreat
namespace Go.Proofs.YtgalgjmhdbncbaaGreat
open Go.RowKit
attribute [local go_sem ↓] Go.wp_at_zero Go.wp_at_succ

set_option maxRecDepth 100000 in
set_option maxHeartbeats 1000000 in
theorem rright_yes (s a m : Int) (h : CfgOk s a m) (w : World) : Calls Tryz.prog 103 #[.agg #[.int .i64 s, .int .i64 a, .int .i64 m]] w fun e w' => e = .returned (.bool true) ∧ Below w.heap.size w w' := by
  obtain ⟨⟨h1, h2⟩, ⟨h3, h4⟩, ⟨h5, h6⟩⟩ := h
  have k1 : ¬ s < 1 := by omega
  have k2 : ¬ 65535 < s := by omega
  have k3 : ¬ a < 1 := by omega
  have k4 : ¬ 100 < a := by omega
  go_enter Tryz.func103, Tryz.ntmps103
  go_wp2
  go_ret
  exact ⟨rfl, (Below.refl _ _).alloc (Nat.le_refl _) _⟩
set_option maxRecDepth 100000 in
set_option maxHeartbeats 1000000 in
theorem rright_no (s a m : Int) (h : ¬ CfgOk s a m) (w : World) : Calls Tryz.prog 103 #[.agg #[.int .i64 s, .int .i64 a, .int .i64 m]] w fun e w' => e = .returned (.bool false) ∧ Below w.heap.size w w' := by
  have H : Hid _ := h
  clear h
  by_cases h1 : s < 1
  · go_enter Tryz.func103, Tryz.ntmps103; go_wp2; go_ret; exact ⟨rfl, (Below.refl _ _).alloc (Nat.le_refl _) _⟩
  by_cases h2 : 65535 < s
  · go_enter Tryz.func103, Tryz.ntmps103; go_wp2; go_ret; exact ⟨rfl, (Below.refl _ _).alloc (Nat.le_refl _) _⟩
  by_cases h3 : a < 1
  · go_enter Tryz.func103, Tryz.ntmps103; go_wp2; go_ret; exact ⟨rfl, (Below.refl _ _).alloc (Nat.le_refl _) _⟩
  by_cases h4 : 100 < a
  · go_enter Tryz.func103, Tryz.ntmps103; go_wp2; go_ret; exact ⟨rfl, (Below.refl _ _).alloc (Nat.le_refl _) _⟩
  by_cases h5 : 0 ≤ m
  · by_cases h6 : m ≤ 200
    · exact absurd ⟨⟨by omega, by omega⟩, ⟨by omega, by omega⟩, ⟨h5, h6⟩⟩ H.out
    · go_enter Tryz.func103, Tryz.ntmps103; go_wp2; go_ret; exact ⟨rfl, (Below.refl _ _).alloc (Nat.le_refl _) _⟩
  · go_enter Tryz.func103, Tryz.ntmps103; go_wp2; go_ret; exact ⟨rfl, (Below.refl _ _).alloc (Nat.le_refl _) _⟩
def cfgB (s a m : Int) : Bool := decide (1 ≤ s ∧ s ≤ 65535) && decide (1 ≤ a ∧ a ≤ 100) && decide (0 ≤ m ∧ m ≤ 200)
theorem cfgB_iff (s a m : Int) : cfgB s a m = true ↔ CfgOk s a m := by simp [cfgB, CfgOk, and_assoc]
theorem rright_any (s a m : Int) (w : World) : Calls Tryz.prog 103 #[.agg #[.int .i64 s, .int .i64 a, .int .i64 m]] w fun e w' => e = .returned (.bool (cfgB s a m)) ∧ Below w.heap.size w w' := by
  by_cases h : CfgOk s a m
  · rw [(cfgB_iff s a m).mpr h]; exact rright_yes s a m h w
  · rw [show cfgB s a m = false from Bool.eq_false_iff.mpr fun e => h ((cfgB_iff s a m).mp e)]; exact rright_no s a m h w

structure Rh where
  alg : Nat
  id : Nat
  fix : ByteArray
  seals : Nat
  ahead : Nat
  most : Nat
  res : Nat
  ret : Bool
  key : ByteArray
  pos : Nat
  ctr : Nat
def rhA (h : Rh) : Array Value := #[.int .i64 h.alg, .int .i64 h.id, .string h.fix, .int .i64 h.seals, .int .i64 h.ahead, .int .i64 h.most, .int .i64 h.res, .bool h.ret, .string h.key, .int .i64 h.pos, .int .i64 h.ctr]
def zrhA : Array Value := #[.int .i64 0, .int .i64 0, .string ⟨#[]⟩, .int .i64 0, .int .i64 0, .int .i64 0, .int .i64 0, .bool false, .string ⟨#[]⟩, .int .i64 0, .int .i64 0]
theorem al173 : Instr.alloc 173 true (.tuple #[]) = Al 173 := rfl
theorem run_al173 (w : World) : Sem.run Tryz.prog (Al 173) w = .ok (.pointer (some ⟨w.heap.size, 0, none⟩)) (w.alloc (.cells zrhA 173)) := by kernel_rfl
theorem stw173 (p v : Value) : Instr.storeAt 173 p v = StT 173 p v := rfl
theorem run_stT173 (g : Nat) (v : Value) (w : World) : Sem.run Tryz.prog (StT 173 (.pointer (some ⟨g, 0, none⟩)) v) w = stN (blk w g) 11 v g w (stO Tryz.prog 173 v g w) := run_stT 173 11 (by kernel_rfl) g v w
theorem stN_rh (a b : Int) (f : ByteArray) (d e x r : Int) (t : Bool) (k : ByteArray) (p c : Int) (g : Nat) (w : World) (y : Result Unit) :
    stN (some (.cells zrhA 173 (0, 0))) 11 (.agg #[.int .i64 a, .int .i64 b, .string f, .int .i64 d, .int .i64 e, .int .i64 x, .int .i64 r, .bool t, .string k, .int .i64 p, .int .i64 c]) g w y = .ok () (w.setRow g #[.int .i64 a, .int .i64 b, .string f, .int .i64 d, .int .i64 e, .int .i64 x, .int .i64 r, .bool t, .string k, .int .i64 p, .int .i64 c]) := by
  unfold stN
  exact if_pos ⟨rfl, rfl, rfl, by simp [Value.oneCell']⟩
theorem cells11 {w : World} {g : Nat} {t : TypeId} {v0 v1 v2 v3 v4 v5 v6 v7 v8 v9 v10 : Value} (h : w.heap[g]? = some (.cells #[v0, v1, v2, v3, v4, v5, v6, v7, v8, v9, v10] t (0, 0))) :
    w.cell? ⟨g, 0, none⟩ = some v0 ∧ w.cell? ⟨g, 1, none⟩ = some v1 ∧ w.cell? ⟨g, 2, none⟩ = some v2 ∧ w.cell? ⟨g, 3, none⟩ = some v3 ∧ w.cell? ⟨g, 4, none⟩ = some v4 ∧ w.cell? ⟨g, 5, none⟩ = some v5 ∧ w.cell? ⟨g, 6, none⟩ = some v6 ∧ w.cell? ⟨g, 7, none⟩ = some v7 ∧ w.cell? ⟨g, 8, none⟩ = some v8 ∧ w.cell? ⟨g, 9, none⟩ = some v9 ∧ w.cell? ⟨g, 10, none⟩ = some v10 := by
  refine ⟨?_, ?_, ?_, ?_, ?_, ?_, ?_, ?_, ?_, ?_, ?_⟩
  · rw [cell_of_row _ _ 0 _ _ _ h]; rfl
  · rw [cell_of_row _ _ 1 _ _ _ h]; rfl
  · rw [cell_of_row _ _ 2 _ _ _ h]; rfl
  · rw [cell_of_row _ _ 3 _ _ _ h]; rfl
  · rw [cell_of_row _ _ 4 _ _ _ h]; rfl
  · rw [cell_of_row _ _ 5 _ _ _ h]; rfl
  · rw [cell_of_row _ _ 6 _ _ _ h]; rfl
  · rw [cell_of_row _ _ 7 _ _ _ h]; rfl
  · rw [cell_of_row _ _ 8 _ _ _ h]; rfl
  · rw [cell_of_row _ _ 9 _ _ _ h]; rfl
  · rw [cell_of_row _ _ 10 _ _ _ h]; rfl
structure RhS (w W : World) (g : Nat) (h : Rh) : Prop where
  rc : W.heap[g]? = some (.cells #[.int .i64 h.alg, .int .i64 h.id, .string h.fix, .int .i64 h.seals, .int .i64 h.ahead, .int .i64 h.most, .int .i64 h.res, .bool h.ret, .string h.key, .int .i64 h.pos, .int .i64 h.ctr] 173 (0, 0))
  l : g < W.heap.size
  bl : Below g w W
theorem RhS.keep {w W W' : World} {g : Nat} {h : Rh} (s : RhS w W g h) (hb : Below W.heap.size W W') : RhS w W' g h := ⟨by rw [hb.block g s.l]; exact s.rc, Nat.lt_of_lt_of_le s.l hb.size, s.bl.trans (hb.mono (Nat.le_of_lt s.l))⟩
theorem RhS.drew {w W : World} {g : Nat} {h : Rh} (s : RhS w W g h) : RhS w W.drew g h := ⟨s.rc, s.l, s.bl.drew⟩
theorem RhS.cs {w W : World} {g : Nat} {h : Rh} (s : RhS w W g h) : W.cell? ⟨g, 0, none⟩ = some (.int .i64 h.alg) ∧ W.cell? ⟨g, 1, none⟩ = some (.int .i64 h.id) ∧ W.cell? ⟨g, 2, none⟩ = some (.string h.fix) ∧ W.cell? ⟨g, 3, none⟩ = some (.int .i64 h.seals) ∧ W.cell? ⟨g, 4, none⟩ = some (.int .i64 h.ahead) ∧ W.cell? ⟨g, 5, none⟩ = some (.int .i64 h.most) ∧ W.cell? ⟨g, 6, none⟩ = some (.int .i64 h.res) ∧ W.cell? ⟨g, 7, none⟩ = some (.bool h.ret) ∧ W.cell? ⟨g, 8, none⟩ = some (.string h.key) ∧ W.cell? ⟨g, 9, none⟩ = some (.int .i64 h.pos) ∧ W.cell? ⟨g, 10, none⟩ = some (.int .i64 h.ctr) := cells11 s.rc
structure RhSm (h : Rh) : Prop where
  alg : h.alg < 65536
  id : h.id < 65536
  fix : h.fix.size ≤ 1000
  seals : h.seals < 65536
  ahead : h.ahead < 65536
  most : h.most < 65536
  res : h.res < 65536
  key : h.key.size ≤ 1000
attribute [local go_sem ↓] al173 stw173
attribute [local go_sem] run_al173 run_stT173 stN_rh blk_new blk_at blk_old blk_drew blk_setCell blk_setRow alloc_setRow
def rhT0 (h : Rh) : ByteArray := kT ++ numT h.alg 1 ++ numT h.id 2 ++ h.fix ++ numT h.seals 2 ++ numT h.ahead 1 ++ numT h.most 1 ++ numT h.res 2
set_option maxRecDepth 100000 in
set_option maxHeartbeats 4000000 in
theorem rtext_ret (h : Rh) (hr : h.ret = true) (hs : RhSm h) (w : World) : Calls Tryz.prog 132 #[.agg (rhA h)] w fun e w' => e = .returned (.string (rhT0 h ++ numT 2 1)) ∧ Below w.heap.size w w' := by
  obtain ⟨h1, h2, h3, h4, h5, h6, h7, h8⟩ := hs
  have HR : Hid (h.ret = true) := hr
  clear hr
  have z1 := numT_size h.alg 1
  have z2 := numT_size h.id 2
  have z3 := numT_size h.seals 2
  have z4 := numT_size h.ahead 1
  have z5 := numT_size h.most 1
  have z6 := numT_size h.res 2
  have z7 := numT_size 1 1
  have z8 := numT_size 2 1
  have S0 : RhS w (w.alloc (.cells (rhA h) 173)) w.heap.size h := ⟨heap_of_new _ _ _ rfl, by simp, (Below.refl _ w).alloc (Nat.le_refl _) _⟩
  unfold rhA at S0 ⊢
  go_enter Tryz.func132, Tryz.ntmps132
  go_wp2_with fail
  suffices HH : ∀ w1, RhS w w1 w.heap.size h → Code.wp Tryz.prog _ _ _ w1 from HH _ S0
  clear S0
  intro w1 S0
  refine wp_region_held_drew (S := fun W' => RhS w W' w.heap.size h) (by kernel_rfl) S0.drew (fun hHeld => ?_)
  refine tp 0 _ ?r1
  refine nz ?_
  refine tk 1 ?v2 ?y2 ?r2
  case y2 => (intro W' hW; obtain ⟨d0, d1, d2, d3, d4, d5, d6, d7, d8, d9, d10⟩ := hW.cs; go_simp; try with_reducible rfl)
  refine nz ?_
  refine tp 4 _ ?r3
  refine nz ?_
  refine tk 5 ?v4 ?y4 ?r4
  case y4 => (intro W' hW; obtain ⟨d0, d1, d2, d3, d4, d5, d6, d7, d8, d9, d10⟩ := hW.cs; go_simp; try with_reducible rfl)
  refine nz ?_
  refine tp 8 _ ?r5
  refine nz ?_
  refine tk 9 ?v6 ?y6 ?r6
  case y6 => (intro W' hW; obtain ⟨d0, d1, d2, d3, d4, d5, d6, d7, d8, d9, d10⟩ := hW.cs; go_simp; try with_reducible rfl)
  refine nz ?_
  refine tp 11 _ ?r7
  refine nz ?_
  refine tp 12 _ ?r8
  refine nz ?_
  refine tk 13 ?v9 ?y9 ?r9
  case y9 => (intro W' hW; obtain ⟨d0, d1, d2, d3, d4, d5, d6, d7, d8, d9, d10⟩ := hW.cs; go_simp; try with_reducible rfl)
  refine nz ?_
  refine tp 16 _ ?r10
  refine nz ?_
  refine tp 17 _ ?r11
  refine nz ?_
  refine tk 18 ?v12 ?y12 ?r12
  case y12 => (intro W' hW; obtain ⟨d0, d1, d2, d3, d4, d5, d6, d7, d8, d9, d10⟩ := hW.cs; go_simp; try with_reducible rfl)
  refine nz ?_
  refine tp 21 _ ?r13
  refine nz ?_
  refine tp 22 _ ?r14
  refine nz ?_
  refine tk 23 ?v15 ?y15 ?r15
  case y15 => (intro W' hW; obtain ⟨d0, d1, d2, d3, d4, d5, d6, d7, d8, d9, d10⟩ := hW.cs; go_simp; try with_reducible rfl)
  refine nz ?_
  refine tp 26 _ ?r16
  refine nz ?_
  refine tk 27 ?v17 ?y17 ?r17
  case y17 => (intro W' hW; obtain ⟨d0, d1, d2, d3, d4, d5, d6, d7, d8, d9, d10⟩ := hW.cs; go_simp; try with_reducible rfl)
  refine nz ?_
  refine wpAnyH_ready (rs := [2]) (by kernel_rfl) (by simp) ?_
  refine AllReadyH.cons rfl (fun K hK => ?_) ?nil2
  case nil2 => exact AllReadyH.nil
  go_simp
  refine (number_int h.alg 1 _ _ rfl rfl (by omega) (by omega) _).mono ?_
  rintro e wa ⟨rfl, ba⟩
  have S2 := RhS.keep hHeld ba
  clear ba hHeld
  go_wp2_with fail
  refine hK.out _ _ S2 (fun hHeld => ?_)
  clear hK K
  clear S2
  refine tk 3 ?v18 ?y18 ?r18
  case y18 => (intro W' hW; go_simp; first | (with_reducible rfl) | rw [if_neg (by omega)])
  refine nz ?_
  refine wpAnyH_ready (rs := [6]) (by kernel_rfl) (by simp) ?_
  refine AllReadyH.cons rfl (fun K hK => ?_) ?nil6
  case nil6 => exact AllReadyH.nil
  go_simp
  refine (number_int h.id 2 _ _ rfl rfl (by omega) (by omega) _).mono ?_
  rintro e wa ⟨rfl, ba⟩
  have S2 := RhS.keep hHeld ba
  clear ba hHeld
  go_wp2_with fail
  refine hK.out _ _ S2 (fun hHeld => ?_)
  clear hK K
  clear S2
  refine tk 7 ?v19 ?y19 ?r19
  case y19 => (intro W' hW; go_simp; first | (with_reducible rfl) | rw [if_neg (by omega)])
  refine nz ?_
  refine tk 10 ?v20 ?y20 ?r20
  case y20 => (intro W' hW; go_simp; first | (with_reducible rfl) | rw [if_neg (by omega)])
  refine nz ?_
  refine wpAnyH_ready (rs := [14]) (by kernel_rfl) (by simp) ?_
  refine AllReadyH.cons rfl (fun K hK => ?_) ?nil14
  case nil14 => exact AllReadyH.nil
  go_simp
  refine (number_int h.seals 2 _ _ rfl rfl (by omega) (by omega) _).mono ?_
  rintro e wa ⟨rfl, ba⟩
  have S2 := RhS.keep hHeld ba
  clear ba hHeld
  go_wp2_with fail
  refine hK.out _ _ S2 (fun hHeld => ?_)
  clear hK K
  clear S2
  refine tk 15 ?v21 ?y21 ?r21
  case y21 => (intro W' hW; go_simp; first | (with_reducible rfl) | rw [if_neg (by omega)])
  refine nz ?_
  refine wpAnyH_ready (rs := [19]) (by kernel_rfl) (by simp) ?_
  refine AllReadyH.cons rfl (fun K hK => ?_) ?nil19
  case nil19 => exact AllReadyH.nil
  go_simp
  refine (number_int h.ahead 1 _ _ rfl rfl (by omega) (by omega) _).mono ?_
  rintro e wa ⟨rfl, ba⟩
  have S2 := RhS.keep hHeld ba
  clear ba hHeld
  go_wp2_with fail
  refine hK.out _ _ S2 (fun hHeld => ?_)
  clear hK K
  clear S2
  refine tk 20 ?v22 ?y22 ?r22
  case y22 => (intro W' hW; go_simp; first | (with_reducible rfl) | rw [if_neg (by omega)])
  refine nz ?_
  refine wpAnyH_ready (rs := [24]) (by kernel_rfl) (by simp) ?_
  refine AllReadyH.cons rfl (fun K hK => ?_) ?nil24
  case nil24 => exact AllReadyH.nil
  go_simp
  refine (number_int h.most 1 _ _ rfl rfl (by omega) (by omega) _).mono ?_
  rintro e wa ⟨rfl, ba⟩
  have S2 := RhS.keep hHeld ba
  clear ba hHeld
  go_wp2_with fail
  refine hK.out _ _ S2 (fun hHeld => ?_)
  clear hK K
  clear S2
  refine tk 25 ?v23 ?y23 ?r23
  case y23 => (intro W' hW; go_simp; first | (with_reducible rfl) | rw [if_neg (by omega)])
  refine nz ?_
  refine wpAnyH_ready (rs := [28]) (by kernel_rfl) (by simp) ?_
  refine AllReadyH.cons rfl (fun K hK => ?_) ?nil28
  case nil28 => exact AllReadyH.nil
  go_simp
  refine (number_int h.res 2 _ _ rfl rfl (by omega) (by omega) _).mono ?_
  rintro e wa ⟨rfl, ba⟩
  have S2 := RhS.keep hHeld ba
  clear ba hHeld
  go_wp2_with fail
  refine hK.out _ _ S2 (fun hHeld => ?_)
  clear hK K
  clear S2
  refine tk 29 ?v24 ?y24 ?r24
  case y24 => (intro W' hW; go_simp; first | (with_reducible rfl) | rw [if_neg (by omega)])
  refine nz ?_
  refine tp 30 _ ?r25
  refine nz ?_
  refine wpAnyH_done (by kernel_rfl) ?_ _
  have S3 := hHeld
  clear hHeld
  obtain ⟨d0, d1, d2, d3, d4, d5, d6, d7, d8, d9, d10⟩ := S3.cs
  rw [HR.out] at d7
  have zz : (kT ++ numT h.alg 1 ++ numT h.id 2 ++ h.fix ++ numT h.seals 2 ++ numT h.ahead 1 ++ numT h.most 1 ++ numT h.res 2).size ≤ 2000 := by simp only [ByteArray.size_append, z1, z2, z3, z4, z5, z6, show kT.size = 1 from rfl]; omega
  go_wp2_with fail
  refine (number_int 2 1 _ _ rfl rfl (by omega) (by omega) _).mono ?_
  rintro e w2 ⟨rfl, b2⟩
  go_wp2_with (rw [if_neg (by omega)])
  go_ret
  exact ⟨rfl, S3.bl.trans (b2.mono (Nat.le_of_lt S3.l))⟩
set_option maxRecDepth 100000 in
set_option maxHeartbeats 4000000 in
theorem rtext_live (h : Rh) (hr : h.ret = false) (hs : RhSm h) (w : World) : Calls Tryz.prog 132 #[.agg (rhA h)] w fun e w' => e = .returned (.string (rhT0 h ++ numT 1 1 ++ h.key)) ∧ Below w.heap.size w w' := by
  obtain ⟨h1, h2, h3, h4, h5, h6, h7, h8⟩ := hs
  have HR : Hid (h.ret = false) := hr
  clear hr
  have z1 := numT_size h.alg 1
  have z2 := numT_size h.id 2
  have z3 := numT_size h.seals 2
  have z4 := numT_size h.ahead 1
  have z5 := numT_size h.most 1
  have z6 := numT_size h.res 2
  have z7 := numT_size 1 1
  have z8 := numT_size 2 1
  have S0 : RhS w (w.alloc (.cells (rhA h) 173)) w.heap.size h := ⟨heap_of_new _ _ _ rfl, by simp, (Below.refl _ w).alloc (Nat.le_refl _) _⟩
  unfold rhA at S0 ⊢
  go_enter Tryz.func132, Tryz.ntmps132
  go_wp2_with fail
  suffices HH : ∀ w1, RhS w w1 w.heap.size h → Code.wp Tryz.prog _ _ _ w1 from HH _ S0
  clear S0
  intro w1 S0
  refine wp_region_held_drew (S := fun W' => RhS w W' w.heap.size h) (by kernel_rfl) S0.drew (fun hHeld => ?_)
  refine tp 0 _ ?r1
  refine nz ?_
  refine tk 1 ?v2 ?y2 ?r2
  case y2 => (intro W' hW; obtain ⟨d0, d1, d2, d3, d4, d5, d6, d7, d8, d9, d10⟩ := hW.cs; go_simp; try with_reducible rfl)
  refine nz ?_
  refine tp 4 _ ?r3
  refine nz ?_
  refine tk 5 ?v4 ?y4 ?r4
  case y4 => (intro W' hW; obtain ⟨d0, d1, d2, d3, d4, d5, d6, d7, d8, d9, d10⟩ := hW.cs; go_simp; try with_reducible rfl)
  refine nz ?_
  refine tp 8 _ ?r5
  refine nz ?_
  refine tk 9 ?v6 ?y6 ?r6
  case y6 => (intro W' hW; obtain ⟨d0, d1, d2, d3, d4, d5, d6, d7, d8, d9, d10⟩ := hW.cs; go_simp; try with_reducible rfl)
  refine nz ?_
  refine tp 11 _ ?r7
  refine nz ?_
  refine tp 12 _ ?r8
  refine nz ?_
  refine tk 13 ?v9 ?y9 ?r9
  case y9 => (intro W' hW; obtain ⟨d0, d1, d2, d3, d4, d5, d6, d7, d8, d9, d10⟩ := hW.cs; go_simp; try with_reducible rfl)
  refine nz ?_
  refine tp 16 _ ?r10
  refine nz ?_
  refine tp 17 _ ?r11
  refine nz ?_
  refine tk 18 ?v12 ?y12 ?r12
  case y12 => (intro W' hW; obtain ⟨d0, d1, d2, d3, d4, d5, d6, d7, d8, d9, d10⟩ := hW.cs; go_simp; try with_reducible rfl)
  refine nz ?_
  refine tp 21 _ ?r13
  refine nz ?_
  refine tp 22 _ ?r14
  refine nz ?_
  refine tk 23 ?v15 ?y15 ?r15
  case y15 => (intro W' hW; obtain ⟨d0, d1, d2, d3, d4, d5, d6, d7, d8, d9, d10⟩ := hW.cs; go_simp; try with_reducible rfl)
  refine nz ?_
  refine tp 26 _ ?r16
  refine nz ?_
  refine tk 27 ?v17 ?y17 ?r17
  case y17 => (intro W' hW; obtain ⟨d0, d1, d2, d3, d4, d5, d6, d7, d8, d9, d10⟩ := hW.cs; go_simp; try with_reducible rfl)
  refine nz ?_
  refine wpAnyH_ready (rs := [2]) (by kernel_rfl) (by simp) ?_
  refine AllReadyH.cons rfl (fun K hK => ?_) ?nil2
  case nil2 => exact AllReadyH.nil
  go_simp
  refine (number_int h.alg 1 _ _ rfl rfl (by omega) (by omega) _).mono ?_
  rintro e wa ⟨rfl, ba⟩
  have S2 := RhS.keep hHeld ba
  clear ba hHeld
  go_wp2_with fail
  refine hK.out _ _ S2 (fun hHeld => ?_)
  clear hK K
  clear S2
  refine tk 3 ?v18 ?y18 ?r18
  case y18 => (intro W' hW; go_simp; first | (with_reducible rfl) | rw [if_neg (by omega)])
  refine nz ?_
  refine wpAnyH_ready (rs := [6]) (by kernel_rfl) (by simp) ?_
  refine AllReadyH.cons rfl (fun K hK => ?_) ?nil6
  case nil6 => exact AllReadyH.nil
  go_simp
  refine (number_int h.id 2 _ _ rfl rfl (by omega) (by omega) _).mono ?_
  rintro e wa ⟨rfl, ba⟩
  have S2 := RhS.keep hHeld ba
  clear ba hHeld
  go_wp2_with fail
  refine hK.out _ _ S2 (fun hHeld => ?_)
  clear hK K
  clear S2
  refine tk 7 ?v19 ?y19 ?r19
  case y19 => (intro W' hW; go_simp; first | (with_reducible rfl) | rw [if_neg (by omega)])
  refine nz ?_
  refine tk 10 ?v20 ?y20 ?r20
  case y20 => (intro W' hW; go_simp; first | (with_reducible rfl) | rw [if_neg (by omega)])
  refine nz ?_
  refine wpAnyH_ready (rs := [14]) (by kernel_rfl) (by simp) ?_
  refine AllReadyH.cons rfl (fun K hK => ?_) ?nil14
  case nil14 => exact AllReadyH.nil
  go_simp
  refine (number_int h.seals 2 _ _ rfl rfl (by omega) (by omega) _).mono ?_
  rintro e wa ⟨rfl, ba⟩
  have S2 := RhS.keep hHeld ba
  clear ba hHeld
  go_wp2_with fail
  refine hK.out _ _ S2 (fun hHeld => ?_)
  clear hK K
  clear S2
  refine tk 15 ?v21 ?y21 ?r21
  case y21 => (intro W' hW; go_simp; first | (with_reducible rfl) | rw [if_neg (by omega)])
  refine nz ?_
  refine wpAnyH_ready (rs := [19]) (by kernel_rfl) (by simp) ?_
  refine AllReadyH.cons rfl (fun K hK => ?_) ?nil19
  case nil19 => exact AllReadyH.nil
  go_simp
  refine (number_int h.ahead 1 _ _ rfl rfl (by omega) (by omega) _).mono ?_
  rintro e wa ⟨rfl, ba⟩
  have S2 := RhS.keep hHeld ba
  clear ba hHeld
  go_wp2_with fail
  refine hK.out _ _ S2 (fun hHeld => ?_)
  clear hK K
  clear S2
  refine tk 20 ?v22 ?y22 ?r22
  case y22 => (intro W' hW; go_simp; first | (with_reducible rfl) | rw [if_neg (by omega)])
  refine nz ?_
  refine wpAnyH_ready (rs := [24]) (by kernel_rfl) (by simp) ?_
  refine AllReadyH.cons rfl (fun K hK => ?_) ?nil24
  case nil24 => exact AllReadyH.nil
  go_simp
  refine (number_int h.most 1 _ _ rfl rfl (by omega) (by omega) _).mono ?_
  rintro e wa ⟨rfl, ba⟩
  have S2 := RhS.keep hHeld ba
  clear ba hHeld
  go_wp2_with fail
  refine hK.out _ _ S2 (fun hHeld => ?_)
  clear hK K
  clear S2
  refine tk 25 ?v23 ?y23 ?r23
  case y23 => (intro W' hW; go_simp; first | (with_reducible rfl) | rw [if_neg (by omega)])
  refine nz ?_
  refine wpAnyH_ready (rs := [28]) (by kernel_rfl) (by simp) ?_
  refine AllReadyH.cons rfl (fun K hK => ?_) ?nil28
  case nil28 => exact AllReadyH.nil
  go_simp
  refine (number_int h.res 2 _ _ rfl rfl (by omega) (by omega) _).mono ?_
  rintro e wa ⟨rfl, ba⟩
  have S2 := RhS.keep hHeld ba
  clear ba hHeld
  go_wp2_with fail
  refine hK.out _ _ S2 (fun hHeld => ?_)
  clear hK K
  clear S2
  refine tk 29 ?v24 ?y24 ?r24
  case y24 => (intro W' hW; go_simp; first | (with_reducible rfl) | rw [if_neg (by omega)])
  refine nz ?_
  refine tp 30 _ ?r25
  refine nz ?_
  refine wpAnyH_done (by kernel_rfl) ?_ _
  have S3 := hHeld
  clear hHeld
  obtain ⟨d0, d1, d2, d3, d4, d5, d6, d7, d8, d9, d10⟩ := S3.cs
  rw [HR.out] at d7
  have zz : (kT ++ numT h.alg 1 ++ numT h.id 2 ++ h.fix ++ numT h.seals 2 ++ numT h.ahead 1 ++ numT h.most 1 ++ numT h.res 2).size ≤ 2000 := by simp only [ByteArray.size_append, z1, z2, z3, z4, z5, z6, show kT.size = 1 from rfl]; omega
  go_wp2_with fail
  refine wp_region_held_drew (S := fun W' => RhS w W' w.heap.size h) (by kernel_rfl) S3.drew (fun hHeld => ?_)
  refine tp 0 _ ?r201
  refine nz ?_
  refine tp 3 _ ?r202
  refine nz ?_
  refine tk 4 ?v203 ?y203 ?r203
  case y203 => (intro W' hW; obtain ⟨d0, d1, d2, d3, d4, d5, d6, d7, d8, d9, d10⟩ := hW.cs; go_simp; try with_reducible rfl)
  refine nz ?_
  refine wpAnyH_ready (rs := [1]) (by kernel_rfl) (by simp) ?_
  refine AllReadyH.cons rfl (fun K hK => ?_) ?nil1
  case nil1 => exact AllReadyH.nil
  go_simp
  refine (number_int 1 1 _ _ rfl rfl (by omega) (by omega) _).mono ?_
  rintro e wa ⟨rfl, ba⟩
  have S2 := RhS.keep hHeld ba
  clear ba hHeld
  go_wp2_with fail
  refine hK.out _ _ S2 (fun hHeld => ?_)
  clear hK K
  clear S2
  refine tk 2 ?v204 ?y204 ?r204
  case y204 => (intro W' hW; go_simp; first | (with_reducible rfl) | rw [if_neg (by omega)])
  refine nz ?_
  refine tk 5 ?v205 ?y205 ?r205
  case y205 => (intro W' hW; go_simp; first | (with_reducible rfl) | rw [if_neg (by omega)])
  refine nz ?_
  refine tp 6 _ ?r206
  refine nz ?_
  refine wpAnyH_done (by kernel_rfl) ?_ _
  go_wp2
  go_ret
  exact ⟨rfl, hHeld.bl⟩
def rhT (h : Rh) : ByteArray := if h.ret = true then rhT0 h ++ numT 2 1 else rhT0 h ++ numT 1 1 ++ h.key
theorem rtext_any (h : Rh) (hs : RhSm h) (w : World) : Calls Tryz.prog 132 #[.agg (rhA h)] w fun e w' => e = .returned (.string (rhT h)) ∧ Below w.heap.size w w' := by
  unfold rhT
  by_cases hr : h.ret = true
  · rw [if_pos hr]; exact rtext_ret h hr hs w
  · rw [if_neg hr]; exact rtext_live h (by simpa using hr) hs w
end Go.Proofs.YtgalgjmhdbncbaaGreat
