import Derived.Test.YtgalgjmhdbncbaaGreatZu25
import Derived.Test.YtgalgjmhdbncbaaGreatZu23
namespace Go.Proofs.YtgalgjmhdbncbaaGreat
open Go.RowKit
attribute [local go_sem ↓] Go.wp_at_zero Go.wp_at_succ
attribute [local go_sem ↓] cv_wrap
attribute [local go_sem] run_cv cvRes_row cvRes_z blk_new blk_at blk_old blk_drew

theorem mx_ref (n : Nat → UInt8) (c q : Nat) (hq : q < 4) : dbl (n (4 * c + q)) ^^^ (n (4 * c + (q + 1) % 4) ^^^ dbl (n (4 * c + (q + 1) % 4))) ^^^ n (4 * c + (q + 2) % 4) ^^^ n (4 * c + (q + 3) % 4) = mx n (4 * c + q) := by
  rw [mx_at n c q hq, dbl_xor]
  match q, hq with
  | 0, _ =>
    simp only [Nat.add_zero, Nat.zero_add, show 1 % 4 = 1 from rfl, show 2 % 4 = 2 from rfl, show 3 % 4 = 3 from rfl]
    generalize dbl (n (4 * c)) = a
    generalize dbl (n (4 * c + 1)) = b
    simp only [UInt8.xor_assoc, UInt8.xor_comm, x_lc, x_can]
  | 1, _ =>
    simp only [show (1 + 1) % 4 = 2 from rfl, show (1 + 2) % 4 = 3 from rfl, show (1 + 3) % 4 = 0 from rfl, Nat.add_zero]
    generalize dbl (n (4 * c + 1)) = a
    generalize dbl (n (4 * c + 2)) = b
    simp only [UInt8.xor_assoc, UInt8.xor_comm, x_lc, x_can]
  | 2, _ =>
    simp only [show (2 + 1) % 4 = 3 from rfl, show (2 + 2) % 4 = 0 from rfl, show (2 + 3) % 4 = 1 from rfl, Nat.add_zero]
    generalize dbl (n (4 * c + 2)) = a
    generalize dbl (n (4 * c + 3)) = b
    simp only [UInt8.xor_assoc, UInt8.xor_comm, x_lc, x_can]
  | 3, _ =>
    simp only [show (3 + 1) % 4 = 0 from rfl, show (3 + 2) % 4 = 1 from rfl, show (3 + 3) % 4 = 2 from rfl, Nat.add_zero]
    generalize dbl (n (4 * c + 3)) = a
    generalize dbl (n (4 * c)) = b
    simp only [UInt8.xor_assoc, UInt8.xor_comm, x_lc, UInt8.xor_self, UInt8.xor_zero]

structure S25 (w0 w : World) (gs gk L ms : Nat) (ks y : Nat → UInt8) : Prop where
  s : Pre w gs 256 sbx
  k : Pre w gk L ks
  r : Row w ms 16 3 (in8 y)
  ls : gs < ms
  lk : gk < ms
  b : Below w0.heap.size w0 w
theorem S25.set {w0 w : World} {gs gk L ms : Nat} {ks y z : Nat → UInt8} (h : S25 w0 w gs gk L ms ks y) (hm : w0.heap.size ≤ ms) (o : Nat) (v : UInt8) (hz : ∀ i, i < 16 → z i = if i = o then v else y i) :
    S25 w0 (w.setCell ⟨ms, o, none⟩ (.int .i64 (v.toNat : Int))) gs gk L ms ks z :=
  ⟨h.s.other (by have := h.ls; omega), h.k.other (by have := h.lk; omega), (h.r.set o _).congr (fun j hj => by
    simp only [in8]
    rw [hz j hj]
    split <;> rfl), h.ls, h.lk, h.b.setCell (by simpa using hm) _⟩
theorem S25.far {w0 w : World} {gs gk L ms m o : Nat} {v : Value} {ks y : Nat → UInt8} (h : S25 w0 w gs gk L ms ks y) (hm : ms < m) (hw : w0.heap.size ≤ ms) : S25 w0 (w.setCell ⟨m, o, none⟩ v) gs gk L ms ks y :=
  ⟨h.s.other (by have := h.ls; omega), h.k.other (by have := h.lk; omega), h.r.other (by omega), h.ls, h.lk, h.b.setCell (by simp; omega) _⟩
theorem S25.drew {w0 w : World} {gs gk L ms : Nat} {ks y : Nat → UInt8} (h : S25 w0 w gs gk L ms ks y) : S25 w0 w.drew gs gk L ms ks y := ⟨h.s, h.k, h.r, h.ls, h.lk, h.b.drew⟩
theorem S25.drewN {w0 w : World} {gs gk L ms : Nat} {ks y : Nat → UInt8} (h : S25 w0 w gs gk L ms ks y) (q : Nat) : S25 w0 (w.drewN q) gs gk L ms ks y := ⟨h.s, h.k, h.r, h.ls, h.lk, below_drewN h.b q⟩
theorem S25.alloc {w0 w : World} {gs gk L ms : Nat} {ks y : Nat → UInt8} (h : S25 w0 w gs gk L ms ks y) (o : Obj) : S25 w0 (w.alloc o) gs gk L ms ks y := ⟨h.s.alloc o, h.k.alloc o, h.r.alloc o, h.ls, h.lk, h.b.alloc h.b.size o⟩
theorem S25.congr {w0 w : World} {gs gk L ms : Nat} {ks y z : Nat → UInt8} (h : S25 w0 w gs gk L ms ks y) (hz : ∀ i, i < 16 → y i = z i) : S25 w0 w gs gk L ms ks z :=
  ⟨h.s, h.k, h.r.congr (fun j hj => by simp only [in8]; rw [hz j hj]), h.ls, h.lk, h.b⟩
def stR (ks f : Nat → UInt8) (R k : Nat) : Nat → UInt8 := if k ≤ R then stF ks f (k - 1) else encF ks f R

set_option maxRecDepth 100000 in
set_option maxHeartbeats 4000000 in
theorem E_ref (key text : ByteArray) (hk : key.size = 16 ∨ key.size = 24 ∨ key.size = 32) (ht : text.size = 16) (w : World) :
    Calls Tryz.prog 123 #[.string key, .string text] w fun e w' => e = .returned (.string (str 16 (aesF (sf key) (sf text) key.size))) ∧ Below w.heap.size w w' := by
  have hm16 : ∀ w, (Instr.makeSlice 213 (.int .i64 16) (.int .i64 16)).run Tryz.prog w = .ok (.slice (some ⟨w.heap.size, 0, none⟩) 16 16) (w.alloc (.cells (arr 16 (in8 fun _ => 0)) 3)) := fun w => mk3 16 (by omega) w
  have hb16 : ∀ w, (Instr.makeSlice 105 (.int .i64 16) (.int .i64 16)).run Tryz.prog w = .ok (.slice (some ⟨w.heap.size, 0, none⟩) 16 16) (w.alloc (.cells (arr 16 z8) 5)) := fun w => mk8 16 (by omega) w
  have HK : Hid _ := hk
  have HT : Hid _ := ht
  have htz : 16 ≤ text.size := by omega
  have htz2 : text.size ≤ 16 := by omega
  obtain ⟨R, hR⟩ : ∃ R, R = key.size / 4 + 6 := ⟨_, rfl⟩
  obtain ⟨L, hL⟩ : ∃ L, L = 4 * key.size + 112 := ⟨_, rfl⟩
  have hRL : L = 16 * R + 16 := by omega
  have hR2 : 2 ≤ R := by omega
  have hR14 : R ≤ 14 := by omega
  have HR : Hid _ := hR
  have HL : Hid _ := hL
  have hrd : ((L : Int) / 16 - 1) = (R : Int) := by omega
  have hLL : (L : Int) ≤ 240 := by omega
  have HRL : Hid _ := hRL
  have hLR : (16 : Int) * (R : Int) + 16 ≤ (L : Int) := by omega
  clear hk ht hR hL hRL
  go_enter Tryz.func123, Tryz.ntmps123
  go_wp2_with fail
  refine (boxes_ref _).mono ?_
  rintro e w1 ⟨gs, capS, rfl, hcs, hgs, ps, b1⟩
  go_wp2_with fail
  refine (expand_ref key HK.out gs capS _ ps hcs).mono ?_
  rintro e w2 ⟨gk, capK, rfl, hck, pk, b2⟩
  rw [← HL.out] at pk hck ⊢
  have ps2 := ps.keep b2 ps.1
  have b12 := b1.trans (b2.mono b1.size)
  have hw2 := b12.size
  have hcs' : (256 : Int) ≤ (capS : Int) := by omega
  have hck' : (L : Int) ≤ (capK : Int) := by omega
  clear ps b1 b2
  go_wp2_with fail
  go_loopw [9] (fun i wr => ∃ k : Nat, k ≤ 16 ∧ i = .int .i64 k ∧ S25 w wr gs gk L w2.heap.size (ksF (sf key) key.size) (fun j => if j < k then sf text j ^^^ ksF (sf key) key.size j else 0)) (fun i _ => 16 - (intOf i).toNat)
  case atStart =>
    refine ⟨0, by omega, rfl, ⟨ps2.alloc _, pk.alloc _, Row.congr (Row.new _ _ _ _ _ rfl) (fun j hj => rfl), ps2.1, pk.1, b12.alloc hw2 _⟩⟩
  case round =>
    clear ps2 pk b12
    obtain ⟨k, hk, rfl, hS⟩ := hrel
    generalize hks : ksF (sf key) key.size = ks at *
    by_cases hlt : k < 16
    · have c0 := hS.k.2 k (by omega)
      have c1 := hS.r.cell k hlt
      have f1 := hS.r.frozen k
      simp only [in8] at c1
      rw [if_neg (by omega)] at c1
      have hix : text[k]'(by omega) = sf text k := by
        have h' : k < text.data.size := by have : text.size = text.data.size := rfl; omega
        show text.data[k] = text.data.getD k 0
        simp [Array.getElem?_eq_getElem h']
      have hbb : ((sf text k).toNat : Int) < 256 := by have := (sf text k).toNat_lt; omega
      have hwr : IntKind.i64.wrap ((sf text k).toNat : Int) = ((sf text k).toNat : Int) := by rw [IntKind.wrap_i64]; omega
      have HX : Hid _ := i64_xor_b (sf text k) (ks k)
      clear hks
      go_wp2
      go_region
      go_wp2
      rw [HX.out]
      refine ⟨⟨k + 1, by omega, by go_num, (hS.set hw2 k _ (fun i hi => ?_)).drew⟩, by simp [intOf]; omega⟩
      by_cases hik : i = k
      · subst hik; rw [if_pos (by omega), if_pos rfl]
      · rw [if_neg hik]
        by_cases hi2 : i < k
        · rw [if_pos hi2, if_pos (by omega)]
        · rw [if_neg hi2, if_neg (by omega)]
    · have hk16 : k = 16 := by omega
      subst hk16
      have HKS : Hid _ := hks
      clear hks
      generalize hx : sf text = x at *
      have HXT : Hid _ := hx
      clear hx
      have hS1 : S25 w wr gs gk L w2.heap.size ks (stR ks x R 1) := hS.congr (fun i hi => by
        rw [if_pos hi]; unfold stR; rw [if_pos (by omega)]; show _ = x i ^^^ ks (16 * 0 + i); rw [show 16 * 0 + i = i by omega])
      clear hS
      go_wp2
      go_loopw [10] (fun i wx => ∃ r : Nat, 1 ≤ r ∧ r ≤ R + 1 ∧ i = .int .i64 r ∧ S25 w wx gs gk L w2.heap.size ks (stR ks x R r)) (fun i _ => R + 1 - (intOf i).toNat)
      case atStart => exact ⟨1, by omega, by omega, rfl, hS1⟩
      case round =>
        clear hS1
        obtain ⟨r, hr1, hr2, rfl, hS⟩ := hrel
        by_cases hrl : r ≤ R
        · have hlm : w2.heap.size < wr.heap.size := hS.r.lt
          generalize hy : stR ks x R r = y at *
          have HY : Hid _ := hy
          clear hy
          go_wp2
          obtain ⟨mn, hmn⟩ : ∃ mn, mn = wr.heap.size := ⟨_, rfl⟩
          rw [← hmn]
          rw [← hmn] at hlm
          go_loopw [12] (fun i wx => ∃ c : Nat, c ≤ 4 ∧ i = .int .i64 c ∧ S25 w wx gs gk L w2.heap.size ks y ∧ Row wx mn 16 3 (in8 fun j => if j < 4 * c then ssF y j else 0)) (fun i _ => 4 - (intOf i).toNat)
          case atStart => exact ⟨0, by omega, rfl, hS.alloc _, Row.congr (Row.new _ _ _ _ _ hmn) (fun j hj => rfl)⟩
          case round =>
            clear hS hmn
            obtain ⟨c, hc, rfl, hS, hn⟩ := hrel
            by_cases hcl : c < 4
            · go_wp2
              go_loopw [13] (fun i wx => ∃ q : Nat, q ≤ 4 ∧ i = .int .i64 q ∧ S25 w wx gs gk L w2.heap.size ks y ∧ Row wx mn 16 3 (in8 fun j => if j < 4 * c + q then ssF y j else 0)) (fun i _ => 4 - (intOf i).toNat)
              case atStart => exact ⟨0, by omega, rfl, hS, hn⟩
              case round =>
                clear hS hn
                obtain ⟨q, hq, rfl, hS, hn⟩ := hrel
                by_cases hql : q < 4
                · have c0 := hS.r.cell (4 * ((c + q) % 4) + q) (by omega)
                  simp only [in8] at c0
                  have c1 := hS.s.2 (y (4 * ((c + q) % 4) + q)).toNat (UInt8.toNat_lt _)
                  have c2 := hn.cell (4 * c + q) (by omega)
                  have f2 := hn.frozen (4 * c + q)
                  have hb : ((y (4 * ((c + q) % 4) + q)).toNat : Int) < 256 := by have := (y (4 * ((c + q) % 4) + q)).toNat_lt; omega
                  have hci : (c : Int) < 4 := by omega
                  have hqi : (q : Int) < 4 := by omega
                  have e1 : ((c : Int) + (q : Int)) % 4 = (((c + q) % 4 : Nat) : Int) := by simp
                  have e0 : (4 * (((c : Int) + (q : Int)) % 4) + (q : Int)).toNat = 4 * ((c + q) % 4) + q := by rw [e1]; omega
                  clear e1
                  go_wp2
                  refine ⟨⟨q + 1, by omega, by go_num, hS.far hlm hw2, (hn.set (4 * c + q) _).congr (fun j hj => ?_)⟩, by simp [intOf]; omega⟩
                  simp only [in8]
                  by_cases hjk : j = 4 * c + q
                  · subst hjk
                    rw [if_pos rfl, if_pos (by omega)]
                    unfold ssF
                    rw [show (4 * c + q + (4 * c + q) % 4 * 4) % 16 = 4 * ((c + q) % 4) + q by omega]
                  · rw [if_neg hjk]
                    by_cases hj2 : j < 4 * c + q
                    · rw [if_pos hj2, if_pos (by omega)]
                    · rw [if_neg hj2, if_neg (by omega)]
                · have hq4 : q = 4 := by omega
                  subst hq4
                  go_wp2
                  exact ⟨⟨c + 1, by omega, by go_num, hS, hn.congr (fun j hj => by simp only [in8]; rw [show 4 * (c + 1) = 4 * c + 4 by omega])⟩, by simp [intOf]; omega⟩
            · have hc4 : c = 4 := by omega
              subst hc4
              have hn1 : Row wr mn 16 3 (in8 (ssF y)) := hn.congr (fun j hj => by simp only [in8]; rw [if_pos (by omega)])
              clear hn
              generalize hz : ssF y = z at *
              have HZ : Hid _ := hz
              clear hz
              go_wp2
              go_loopw [14] (fun i wx => ∃ c : Nat, c ≤ 4 ∧ i = .int .i64 c ∧ S25 w wx gs gk L w2.heap.size ks (fun j => if j < 4 * c then (if r < R then mx z j else z j) ^^^ ks (16 * r + j) else y j) ∧ Row wx mn 16 3 (in8 z)) (fun i _ => 4 - (intOf i).toNat)
              case atStart => exact ⟨0, by omega, rfl, hS, hn1⟩
              case round =>
                clear hS hn1
                obtain ⟨c, hc, rfl, hS, hn⟩ := hrel
                by_cases hcl : c < 4
                · go_wp2
                  go_loopw [15] (fun i wx => ∃ q : Nat, q ≤ 4 ∧ i = .int .i64 q ∧ S25 w wx gs gk L w2.heap.size ks (fun j => if j < 4 * c + q then (if r < R then mx z j else z j) ^^^ ks (16 * r + j) else y j) ∧ Row wx mn 16 3 (in8 z)) (fun i _ => 4 - (intOf i).toNat)
                  case atStart => exact ⟨0, by omega, rfl, hS, hn⟩
                  case round =>
                    clear hS hn
                    obtain ⟨q, hq, rfl, hS, hn⟩ := hrel
                    by_cases hql : q < 4
                    · have c0 := hn.cell (4 * c + q) (by omega)
                      have c1 := hn.cell (4 * c + (q + 1) % 4) (by omega)
                      have c2 := hn.cell (4 * c + (q + 2) % 4) (by omega)
                      have c3 := hn.cell (4 * c + (q + 3) % 4) (by omega)
                      simp only [in8] at c0 c1 c2 c3
                      have d0 := hS.r.cell (4 * c + q) (by omega)
                      have f0 := hS.r.frozen (4 * c + q)
                      have k0 := hS.k.2 (16 * r + 4 * c + q) (by have := HRL.out; omega)
                      have hci : (c : Int) < 4 := by omega
                      have hqi : (q : Int) < 4 := by omega
                      have hri : (r : Int) ≤ (R : Int) := by omega
                      by_cases hrR : r < R
                      · have hri2 : (r : Int) < (R : Int) := by omega
                        have e1 : (4 * (c : Int) + ((q : Int) + 1) % 4).toNat = 4 * c + (q + 1) % 4 := by omega
                        have e2 : (4 * (c : Int) + ((q : Int) + 2) % 4).toNat = 4 * c + (q + 2) % 4 := by omega
                        have e3 : (4 * (c : Int) + ((q : Int) + 3) % 4).toNat = 4 * c + (q + 3) % 4 := by omega
                        go_wp2_with fail
                        refine (times_2x _ _).mono ?_
                        rintro e w5 ⟨rfl, hw5⟩
                        subst hw5
                        go_wp2_with fail
                        refine (times_3x _ _).mono ?_
                        rintro e w5 ⟨rfl, hw5⟩
                        subst hw5
                        go_wp2_with fail
                        have HX : Hid (bits .xor .i64 (bits .xor .i64 (bits .xor .i64 (bits .xor .i64 ((dbl (z (4 * c + q))).toNat : Int) (((z (4 * c + (q + 1) % 4)).toNat ^^^ (dbl (z (4 * c + (q + 1) % 4))).toNat : Nat) : Int)) ((z (4 * c + (q + 2) % 4)).toNat : Int)) ((z (4 * c + (q + 3) % 4)).toNat : Int)) ((ks (16 * r + 4 * c + q)).toNat : Int) = ((mx z (4 * c + q) ^^^ ks (16 * r + 4 * c + q)).toNat : Int)) := by
                          show _ = _
                          rw [← UInt8.toNat_xor, i64_xor_b, i64_xor_b, i64_xor_b, i64_xor_b, mx_ref z c q hql]
                        go_region
                        go_wp2
                        rw [HX.out]
                        refine ⟨⟨q + 1, by omega, by omega, (hS.set hw2 (4 * c + q) _ (fun j hj => ?_)).drew, (hn.other (by omega)).drew⟩, by simp [intOf]; omega⟩
                        by_cases hjk : j = 4 * c + q
                        · subst hjk
                          rw [if_pos rfl, if_pos (by omega), show 16 * r + (4 * c + q) = 16 * r + 4 * c + q by omega]
                        · rw [if_neg hjk]
                          by_cases hj2 : j < 4 * c + q
                          · rw [if_pos hj2, if_pos (by omega), if_pos (by assumption)]
                          · rw [if_neg hj2, if_neg (by omega)]
                      · have hri2 : ¬ (r : Int) < (R : Int) := by omega
                        have HX : Hid _ := i64_xor_b (z (4 * c + q)) (ks (16 * r + 4 * c + q))
                        go_wp2
                        rw [HX.out]
                        refine ⟨⟨q + 1, by omega, by go_num, hS.set hw2 (4 * c + q) _ (fun j hj => ?_), hn.other (by omega)⟩, by simp [intOf]; omega⟩
                        rw [if_neg hrR]
                        by_cases hjk : j = 4 * c + q
                        · subst hjk
                          rw [if_pos rfl, if_pos (by omega), show 16 * r + (4 * c + q) = 16 * r + 4 * c + q by omega]
                        · rw [if_neg hjk]
                          by_cases hj2 : j < 4 * c + q
                          · rw [if_pos hj2, if_pos (by omega)]
                          · rw [if_neg hj2, if_neg (by omega)]
                    · have hq4 : q = 4 := by omega
                      subst hq4
                      go_wp2
                      exact ⟨⟨c + 1, by omega, by go_num, hS.congr (fun j hj => by rw [show 4 * (c + 1) = 4 * c + 4 by omega]), hn⟩, by simp [intOf]; omega⟩
                · have hc4 : c = 4 := by omega
                  subst hc4
                  go_wp2
                  refine ⟨⟨r + 1, by omega, by omega, by go_num, hS.congr (fun j hj => ?_)⟩, by simp [intOf]; omega⟩
                  rw [if_pos (by omega), ← HZ.out, ← HY.out]
                  unfold stR
                  rw [if_pos hrl]
                  by_cases hrR : r < R
                  · rw [if_pos hrR, if_pos (by omega)]
                    obtain ⟨r', rfl⟩ : ∃ r', r = r' + 1 := ⟨r - 1, by omega⟩
                    rfl
                  · have hre : r = R := by omega
                    rw [if_neg hrR, if_neg (by omega), hre]
                    rfl
        · have hre : r = R + 1 := by omega
          have hS1 : S25 w wr gs gk L w2.heap.size ks (encF ks x R) := hS.congr (fun j hj => by unfold stR; rw [if_neg hrl])
          have hlm : w2.heap.size < wr.heap.size := hS.r.lt
          clear hS
          generalize hu : encF ks x R = u at *
          have HU : Hid _ := hu
          clear hu
          go_wp2
          obtain ⟨mo, hmo⟩ : ∃ mo, mo = wr.heap.size := ⟨_, rfl⟩
          rw [← hmo]
          rw [← hmo] at hlm
          go_loopw [20] (fun i wx => ∃ k : Nat, k ≤ 16 ∧ i = .int .i64 k ∧ S25 w wx gs gk L w2.heap.size ks u ∧ Row wx mo 16 5 (by8 fun j => if j < k then u j else 0)) (fun i _ => 16 - (intOf i).toNat)
          case atStart => exact ⟨0, by omega, rfl, hS1.alloc _, Row.congr (V := z8) (Row.new _ _ _ _ _ hmo) (fun j hj => rfl)⟩
          case round =>
            clear hS1 hmo
            obtain ⟨k, hk, rfl, hS, hn⟩ := hrel
            by_cases hkl : k < 16
            · have c0 := hS.r.cell k hkl
              simp only [in8] at c0
              have c1 := hn.cell k hkl
              have f1 := hn.frozen k
              have hb : ((u k).toNat : Int) < 256 := by have := (u k).toNat_lt; omega
              go_wp2
              refine ⟨⟨k + 1, by omega, by go_num, hS.far hlm hw2, (hn.set k _).congr (fun j hj => ?_)⟩, by simp [intOf]; omega⟩
              simp only [by8]
              by_cases hjk : j = k
              · subst hjk
                rw [if_pos rfl, if_pos (by omega)]
              · rw [if_neg hjk]
                by_cases hj2 : j < k
                · rw [if_pos hj2, if_pos (by omega)]
                · rw [if_neg hj2, if_neg (by omega)]
            · have hk16 : k = 16 := by omega
              subst hk16
              have r1 : Row wr mo 16 5 (by8 (aesF (sf key) (sf text) key.size)) := hn.congr (fun j hj => by
                simp only [by8]
                rw [if_pos hj, ← HU.out, ← HKS.out, ← HXT.out, HR.out]; rfl)
              have q1 := heap_pos r1
              go_wp2
              go_ret
              exact ⟨rfl, hS.b⟩
end Go.Proofs.YtgalgjmhdbncbaaGreat
namespace Go.Proofs.YtgalgjmhdbncbaaGreat
open Go.RowKit

set_option maxRecDepth 100000 in
set_option maxHeartbeats 1000000 in
theorem rhash_str (k : Nat → UInt8) (s : ByteArray) (hs : s.size ≤ maxLen) (hn : s.size % 16 = 0) (w : World) :
    Calls Tryz.prog 125 #[.string (str 16 k), .string s] w fun e w' => e = .returned (.string (str 16 (hashN k (sf s) (s.size / 16)))) ∧ Below w.heap.size w w' := by
  unfold maxLen at hs
  have HN : Hid _ := hn
  clear hn
  go_enter Tryz.func125, Tryz.ntmps125
  go_wp2_with fail
  refine (number0_ref _).mono ?_
  rintro e w1 ⟨rfl, b1⟩
  go_wp2_with fail
  go_loopw [5, 6] (fun y i wr => ∃ q A : Nat, Hid (A = 16 * q) ∧ A ≤ s.size ∧ i = .int .i64 A ∧ y = .string (str 16 (hashN k (sf s) q)) ∧ Below w.heap.size w wr) (fun _ i _ => s.size - (intOf i).toNat)
  case atStart => exact ⟨0, 0, rfl, by omega, rfl, rfl, b1⟩
  case round =>
    obtain ⟨q, A, HA, hA, rfl, rfl, hB⟩ := hrel
    by_cases hlt : A < s.size
    · have hA16 : A + 16 ≤ s.size := by
        have e1 := HA.out
        have e2 := HN.out
        omega
      have hsz : (s.size : Int) < 9223372036854775807 := by
        have e2 := HN.out
        omega
      have hex : s.extract A (A + 16) = str 16 (fun j => sf s (16 * q + j)) := by
        apply bytes_ext
        · rw [cut_size _ _ _ hA16, str_size]; omega
        · intro j hj
          rw [cut_size _ _ _ hA16] at hj
          rw [sf_cut _ _ _ _ hA16 (by omega), sf_str _ _ _ (by omega), HA.out]
      go_wp2_with fail
      refine (rxor_ref 16 _ _ (by omega) _).mono ?_
      rintro e w2 ⟨rfl, b2⟩
      go_wp2_with fail
      refine (product_str _ _ _).mono ?_
      rintro e w3 ⟨rfl, b3⟩
      go_wp2
      refine ⟨⟨q + 1, A + 16, by have := HA.out; show A + 16 = _; omega, hA16, by go_num, rfl, ?_⟩, by simp [intOf]; omega⟩
      exact (hB.trans (b2.mono hB.size)).trans (b3.mono (by have := hB.size; have := b2.size; omega))
    · have hAs : s.size / 16 = q := by
        have e1 := HA.out
        have e2 := HN.out
        omega
      have HQ : Hid _ := hAs
      clear hAs
      go_wp2
      go_ret
      exact ⟨by rw [HQ.out]; rfl, hB⟩
theorem rhash_ref (h s : ByteArray) (hh : h.size = 16) (hs : s.size ≤ maxLen) (hn : s.size % 16 = 0) (w : World) :
    Calls Tryz.prog 125 #[.string h, .string s] w fun e w' => e = .returned (.string (str 16 (hashN (sf h) (sf s) (s.size / 16)))) ∧ Below w.heap.size w w' := by
  have := rhash_str (sf h) s hs hn w
  rwa [str_sf h 16 hh] at this

set_option maxRecDepth 100000 in
set_option maxHeartbeats 1000000 in
theorem rHash_key (h s : ByteArray) (hh : h.size ≠ 16) (w : World) : Calls Tryz.prog 92 #[.string h, .string s] w fun e w' => e = .returned (.tuple #[.string ⟨#[]⟩, .int .i64 2]) ∧ w' = w := by
  have hb : ((h.size : Int) != 16) = true := by rw [bne_iff_ne]; omega
  go_enter Tryz.func92, Tryz.ntmps92
  go_wp2
  go_ret2
  exact ⟨rfl, rfl⟩
set_option maxRecDepth 100000 in
set_option maxHeartbeats 1000000 in
theorem rHash_size (h s : ByteArray) (hh : h.size = 16) (hs : s.size ≤ maxLen) (hn : s.size % 16 ≠ 0) (w : World) : Calls Tryz.prog 92 #[.string h, .string s] w fun e w' => e = .returned (.tuple #[.string ⟨#[]⟩, .int .i64 5]) ∧ w' = w := by
  unfold maxLen at hs
  have hb : ((h.size : Int) != 16) = false := by rw [bne_eq_false_iff_eq]; omega
  have hm : (((s.size : Int) % 16) != 0) = true := by rw [bne_iff_ne]; omega
  clear hh
  go_enter Tryz.func92, Tryz.ntmps92
  go_wp2
  go_ret2
  exact ⟨rfl, rfl⟩
set_option maxRecDepth 100000 in
set_option maxHeartbeats 1000000 in
theorem rHash_ok (h s : ByteArray) (hh : h.size = 16) (hs : s.size ≤ maxLen) (hn : s.size % 16 = 0) (w : World) : Calls Tryz.prog 92 #[.string h, .string s] w fun e w' => e = .returned (.tuple #[.string (str 16 (hashN (sf h) (sf s) (s.size / 16))), .int .i64 0]) ∧ Below w.heap.size w w' := by
  have HS : Hid _ := hs
  have HH : Hid _ := hh
  have HN : Hid _ := hn
  have hb : ((h.size : Int) != 16) = false := by rw [bne_eq_false_iff_eq]; omega
  have hm : (((s.size : Int) % 16) != 0) = false := by rw [bne_eq_false_iff_eq]; omega
  unfold maxLen at hs
  clear hh hn
  go_enter Tryz.func92, Tryz.ntmps92
  go_wp2_with fail
  refine (rhash_ref h s HH HS HN _).mono ?_
  rintro e w1 ⟨rfl, b1⟩
  go_wp2
  go_ret2
  exact ⟨rfl, b1⟩
end Go.Proofs.YtgalgjmhdbncbaaGreat
