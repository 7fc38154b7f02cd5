import Derived.Test.YtgalgjmhdbncbaaGreatZu37
namespace Go.Proofs.YtgalgjmhdbncbaaGreat
open Go.RowKit
attribute [local go_sem ↓] Go.wp_at_zero Go.wp_at_succ

def rdH (s : ByteArray) (p : Nat) : Rh := ⟨(sf s 1).toNat, valF (sf s) 2 2, s.extract 4 8, valF (sf s) 8 2, (sf s 10).toNat, (sf s 11).toNat, valF (sf s) 12 2, ((sf s 14).toNat : Int) == 2, s.extract 15 s.size, p, valF (sf s) 12 2⟩
theorem of_toNat (a : UInt8) : UInt8.ofNat a.toNat = a := by simp
theorem val2 (f : Nat → UInt8) (a : Nat) : valF f a 2 = (f a).toNat * 256 + (f (a + 1)).toNat := by simp [valF]
theorem val2_hi (f : Nat → UInt8) (a : Nat) : UInt8.ofNat (valF f a 2 / 256) = f a := by
  rw [val2, show ((f a).toNat * 256 + (f (a + 1)).toNat) / 256 = (f a).toNat by have := (f (a + 1)).toNat_lt; omega, of_toNat]
theorem val2_lo (f : Nat → UInt8) (a : Nat) : UInt8.ofNat (valF f a 2) = f (a + 1) := by
  rw [val2]
  have h : UInt8.ofNat ((f a).toNat * 256 + (f (a + 1)).toNat) = UInt8.ofNat (f (a + 1)).toNat := by
    apply UInt8.toNat_inj.1
    rw [UInt8.toNat_ofNat', UInt8.toNat_ofNat']
    omega
  rw [h, of_toNat]
theorem val2_lt (f : Nat → UInt8) (a : Nat) : valF f a 2 < 65536 := by
  rw [val2]
  have h1 := (f a).toNat_lt
  have h2 := (f (a + 1)).toNat_lt
  omega
theorem rdH_fix (s : ByteArray) (p : Nat) (hs : 15 ≤ s.size) : (rdH s p).fix.size = 4 := by
  show (s.extract 4 8).size = 4
  rw [ByteArray.size_extract]; omega
theorem rdH_key (s : ByteArray) (p : Nat) : (rdH s p).key.size = s.size - 15 := by
  show (s.extract 15 s.size).size = _
  rw [ByteArray.size_extract]; omega
theorem t14_rd (s : ByteArray) (p : Nat) (hs : 15 ≤ s.size) : ∀ j, j < 14 → j ≠ 0 → t14 (rdH s p) j = sf s j := by
  refine c14 (fun h => absurd rfl h) ?_ ?_ ?_ ?_ ?_ ?_ ?_ ?_ ?_ ?_ ?_ ?_ ?_ <;> intro _
  · exact of_toNat _
  · exact val2_hi _ 2
  · exact val2_lo _ 2
  · exact sf_cut s 4 8 0 (by omega) (by omega)
  · exact sf_cut s 4 8 1 (by omega) (by omega)
  · exact sf_cut s 4 8 2 (by omega) (by omega)
  · exact sf_cut s 4 8 3 (by omega) (by omega)
  · exact val2_hi _ 8
  · exact val2_lo _ 8
  · exact of_toNat _
  · exact of_toNat _
  · exact val2_hi _ 12
  · exact val2_lo _ 12
theorem sf_num1 (v : Nat) : sf (numT v 1) 0 = UInt8.ofNat v := by
  rw [show numT v 1 = str 1 (numF v 1) from rfl, sf_str _ _ _ (by omega)]
  simp [numF]
theorem rd_eq (s : ByteArray) (p : Nat) (hs : 15 ≤ s.size) : rhT (rdH s p) = s ↔ sf s 0 = 107 ∧ (((sf s 14).toNat = 2 ∧ s.size = 15) ∨ (sf s 14).toNat = 1) := by
  have hf := rdH_fix s p hs
  have z0 := rhT0_size _ hf
  have a0 : sf (rhT0 (rdH s p)) 0 = 107 := rhT0_at _ hf 0 (by omega)
  have aj : ∀ j, j < 14 → j ≠ 0 → sf (rhT0 (rdH s p)) j = sf s j := fun j hj h0 => (rhT0_at _ hf j hj).trans (t14_rd s p hs j hj h0)
  have hk := rdH_key s p
  have hret : (rdH s p).ret = true ↔ (sf s 14).toNat = 2 := by
    show ((((sf s 14).toNat : Int) == 2) = true) ↔ _
    rw [beq_iff_eq]; omega
  have e14 : ∀ n : Nat, n < 256 → (UInt8.ofNat n = sf s 14 ↔ (sf s 14).toNat = n) := by
    intro n hn
    constructor
    · intro h; rw [← h, UInt8.toNat_ofNat']; omega
    · intro h; rw [← h, of_toNat]
  unfold rhT
  by_cases hr : (rdH s p).ret = true
  · rw [if_pos hr]
    have h2 := hret.1 hr
    have key : ∀ j, sf (rhT0 (rdH s p) ++ numT 2 1) j = if j < 14 then sf (rhT0 (rdH s p)) j else sf (numT 2 1) (j - 14) := fun j => by rw [sf_append, z0]
    constructor
    · intro h
      refine ⟨?_, .inl ⟨h2, ?_⟩⟩
      · have := key 0
        rw [h, if_pos (by omega), a0] at this
        exact this
      · have := congrArg ByteArray.size h
        rw [ByteArray.size_append, z0, numT_size] at this
        exact this.symm
    · rintro ⟨h0, ⟨_, hz⟩ | h1⟩
      · apply bytes_ext
        · rw [ByteArray.size_append, z0, numT_size, hz]
        · intro j hj
          rw [ByteArray.size_append, z0, numT_size] at hj
          rw [key]
          by_cases e : j < 14
          · rw [if_pos e]
            by_cases e0 : j = 0
            · rw [e0, a0, h0]
            · exact aj j e e0
          · have : j = 14 := by omega
            subst this
            rw [if_neg e, sf_num1]
            exact (e14 2 (by omega)).2 h2
      · omega
  · rw [if_neg hr]
    have h2 : ¬ (sf s 14).toNat = 2 := fun h => hr (hret.2 h)
    have key : ∀ j, sf (rhT0 (rdH s p) ++ numT 1 1 ++ (rdH s p).key) j = if j < 15 then (if j < 14 then sf (rhT0 (rdH s p)) j else sf (numT 1 1) (j - 14)) else sf (rdH s p).key (j - 15) := fun j => by rw [sf_append, ByteArray.size_append, z0, numT_size, sf_append, z0]
    constructor
    · intro h
      have k0 := key 0
      rw [h, if_pos (by omega), if_pos (by omega), a0] at k0
      have k14 := key 14
      rw [h, if_pos (by omega), if_neg (by omega), sf_num1] at k14
      exact ⟨k0, .inr ((e14 1 (by omega)).1 k14.symm)⟩
    · rintro ⟨h0, ⟨h3, _⟩ | h1⟩
      · exact absurd h3 h2
      · apply bytes_ext
        · rw [ByteArray.size_append, ByteArray.size_append, z0, numT_size, hk]; omega
        · intro j hj
          rw [ByteArray.size_append, ByteArray.size_append, z0, numT_size, hk] at hj
          rw [key]
          by_cases e5 : j < 15
          · rw [if_pos e5]
            by_cases e : j < 14
            · rw [if_pos e]
              by_cases e0 : j = 0
              · rw [e0, a0, h0]
              · exact aj j e e0
            · have : j = 14 := by omega
              subst this
              rw [if_neg e, sf_num1]
              exact (e14 1 (by omega)).2 h1
          · rw [if_neg e5]
            show sf (s.extract 15 s.size) (j - 15) = _
            rw [sf_cut s 15 s.size (j - 15) (Nat.le_refl _) (by omega), show 15 + (j - 15) = j by omega]
def rdB (s : ByteArray) : Bool := cfgB (valF (sf s) 8 2) (sf s 10).toNat (sf s 11).toNat && ((rhT (rdH s 0)).toList == s.toList) && (if ((sf s 14).toNat : Int) == 2 then decide (1 ≤ (sf s 1).toNat ∧ (sf s 1).toNat ≤ 3) else ((algN (s.extract 15 s.size).size : Int) == ((sf s 1).toNat : Int)) && decide (0 < (sf s 1).toNat)) && decide (valF (sf s) 12 2 ≤ valF (sf s) 8 2)
theorem val1 (f : Nat → UInt8) (a : Nat) : valF f a 1 = (f a).toNat := by simp [valF]
theorem rdC_eq (s : ByteArray) : rdC s 6 = ⟨(sf s 14).toNat, (sf s 1).toNat, valF (sf s) 2 2, s.extract 4 8, valF (sf s) 8 2, (sf s 10).toNat, (sf s 11).toNat, valF (sf s) 12 2, s.extract 15 s.size⟩ := by
  simp [rdC, vk, fA, fZ, val1]
theorem toList_beq (a b : ByteArray) : (a.toList == b.toList) = true ↔ a = b := by
  rw [beq_iff_eq]
  constructor
  · intro h
    rw [ByteArray.toList_eq, ByteArray.toList_eq] at h
    cases a; cases b
    congr 1
    exact Array.toList_inj.1 h
  · rintro rfl; rfl
theorem rdB_iff (s : ByteArray) (hs : 15 ≤ s.size) : rdB s = true ↔ ofOk s := by
  have hk := rdH_key s 0
  have hk2 : (s.extract 15 s.size).size = s.size - 15 := hk
  have he := rd_eq s 0 hs
  unfold rdB ofOk HoldsC
  rw [rdC_eq]
  simp only [Bool.and_eq_true, cfgB_iff, toList_beq, he, decide_eq_true_iff, hk2]
  generalize hA : (sf s 1).toNat = A
  generalize hT : (sf s 14).toNat = T
  have hc : CfgOk (valF (sf s) 8 2 : Nat) A A ↔ CfgOk (valF (sf s) 8 2 : Nat) A A := Iff.rfl
  by_cases h2 : T = 2
  · rw [if_pos (by rw [beq_iff_eq]; omega), decide_eq_true_iff]
    constructor
    · rintro ⟨⟨⟨h1, h3, h4⟩, h5⟩, h6⟩
      refine .inr ⟨hs, h3, h5, h1, h6, .inr ⟨h2, ?_⟩⟩
      omega
    · rintro (h | ⟨_, h3, h5, h1, h6, h7⟩)
      · omega
      · refine ⟨⟨⟨h1, h3, ?_⟩, h5⟩, h6⟩
        omega
  · rw [if_neg (by rw [beq_iff_eq]; omega)]
    simp only [Bool.and_eq_true, decide_eq_true_iff, beq_iff_eq]
    have hal : ∀ n : Nat, ((algN n : Int) = (A : Int) ∧ 0 < A) ↔ (1 ≤ A ∧ A ≤ 3 ∧ n = 8 + 8 * A) := by
      intro n
      unfold algN
      constructor
      · rintro ⟨h1, h0⟩
        split at h1
        · omega
        · split at h1
          · omega
          · split at h1 <;> omega
      · rintro ⟨h1, h3, h4⟩
        refine ⟨?_, by omega⟩
        split
        · omega
        · split
          · omega
          · split <;> omega
    constructor
    · rintro ⟨⟨⟨h1, h3, h4⟩, h5⟩, h6⟩
      obtain ⟨a1, a2, a3⟩ := (hal _).1 h5
      refine .inr ⟨hs, h3, ⟨a1, a2⟩, h1, h6, .inl ⟨?_, a3⟩⟩
      omega
    · rintro (h | ⟨_, h3, h5, h1, h6, h7⟩)
      · omega
      · refine ⟨⟨⟨h1, h3, ?_⟩, (hal _).2 ⟨h5.1, h5.2, ?_⟩⟩, h6⟩
        · omega
        · omega
theorem rdB_rel (s : ByteArray) (p : Nat) (hs : 15 ≤ s.size) (hz : s.size ≤ 64) (h : ofOk s) : HRel (rdH s p) ⟨ofC s, (ofC s).res⟩ := by
  have hk := rdH_key s p
  have hk2 : (s.extract 15 s.size).size = s.size - 15 := hk
  have e : ofC s = rdC s 6 := by unfold ofC; rw [if_neg (by omega)]
  rcases h with h | ⟨_, _, hC⟩
  · omega
  rw [e]
  rw [rdC_eq] at hC ⊢
  obtain ⟨h1, h2, h3, h4⟩ := hC
  have hI := val2_lt (sf s) 2
  refine ⟨rfl, rfl, rfl, rfl, rfl, rfl, rfl, ?_, fun _ => rfl, rfl, by omega, ⟨?_, h1, ?_, ?_, h2, h3, ?_⟩, Nat.le_refl _⟩
  · show (((sf s 14).toNat : Int) == 2) = decide ((sf s 14).toNat = 2)
    rw [Bool.eq_iff_iff, beq_iff_eq, decide_eq_true_iff]; omega
  · rcases h4 with ⟨h, _⟩ | ⟨h, _⟩
    · exact .inl h
    · exact .inr h
  · show valF (sf s) 2 2 ≤ 65535
    omega
  · exact rdH_fix s p hs
  · show (s.extract 15 s.size).size = if (sf s 14).toNat = 1 then 8 + 8 * (sf s 1).toNat else 0
    rcases h4 with ⟨h, h5⟩ | ⟨h, h5⟩
    · rw [if_pos h]; exact h5
    · rw [if_neg (by dsimp only at h; omega)]; exact h5

theorem bd173 (ps : Array (Nat × Value)) : Instr.build 173 ps = Bd 173 ps := rfl
theorem run_bd173 (w : World) : Sem.run Tryz.prog (Bd 173 #[]) w = .ok (.agg #[.int .i64 0, .int .i64 0, .string ⟨#[]⟩, .int .i64 0, .int .i64 0, .int .i64 0, .int .i64 0, .bool false, .string ⟨#[]⟩, .int .i64 0, .int .i64 0]) w := by kernel_rfl
attribute [local go_sem ↓] al173 stw173 bd173
attribute [local go_sem] run_al173 run_stT173 stN_rh run_bd173 blk_new blk_at blk_old blk_drew blk_setCell blk_setRow alloc_setRow
def zRh : Rh := ⟨0, 0, ⟨#[]⟩, 0, 0, 0, 0, false, ⟨#[]⟩, 0, 0⟩
set_option maxRecDepth 100000 in
set_option maxHeartbeats 4000000 in
theorem rread_short (s : ByteArray) (p : Nat) (hs : s.size < 15) (w : World) : Calls Tryz.prog 100 #[.string s, .int .i64 p] w fun e w' => e = .returned (.tuple #[.agg (rhA zRh), .bool false]) ∧ Below w.heap.size w w' := by
  go_enter Tryz.func100, Tryz.ntmps100
  go_wp2
  refine bodyPost_ret (res173 Tryz.results100 _ _ w.heap.size (rhA zRh) _ rfl rfl rfl (heap_of_new _ _ _ rfl)) rfl ⟨rfl, ?_⟩
  exact (Below.refl _ _).alloc (Nat.le_refl _) _
theorem rread_any (s : ByteArray) (p : Nat) (hz : s.size ≤ 64) (h0 : s.size ≠ 0) (w : World) : Calls Tryz.prog 100 #[.string s, .int .i64 p] w fun e w' => (∃ (x : Rh) (b : Bool), e = .returned (.tuple #[.agg (rhA x), .bool b]) ∧ (b = true ↔ ofOk s) ∧ (b = true → x.pos = p ∧ HRel x ⟨ofC s, (ofC s).res⟩)) ∧ Below w.heap.size w w' := by
  by_cases hs : 15 ≤ s.size
  · have hI := val2_lt (sf s) 2
    have hSe := val2_lt (sf s) 8
    have hR := val2_lt (sf s) 12
    have u1 := (sf s 1).toNat_lt
    have u2 := (sf s 10).toNat_lt
    have u3 := (sf s 11).toNat_lt
    refine Calls.mono (read_mid s _ _ _ (rdB s) (rdH s p) rfl hs hz rfl rfl rfl rfl rfl rfl rfl rfl rfl u1 u2 u3 hI hSe hR rfl rfl rfl ?_ w) ?_
    · unfold rdB
      rfl
    · rintro e w' ⟨rfl, hb⟩
      exact ⟨⟨_, _, rfl, rdB_iff s hs, fun h => ⟨rfl, rdB_rel s p hs hz ((rdB_iff s hs).1 h)⟩⟩, hb⟩
  · refine Calls.mono (rread_short s p (by omega) w) ?_
    rintro e w' ⟨rfl, hb⟩
    refine ⟨⟨_, _, rfl, ⟨fun h => (by cases h), fun h => ?_⟩, fun h => (by cases h)⟩, hb⟩
    rcases h with h | ⟨h, _⟩
    · omega
    · omega
end Go.Proofs.YtgalgjmhdbncbaaGreat
