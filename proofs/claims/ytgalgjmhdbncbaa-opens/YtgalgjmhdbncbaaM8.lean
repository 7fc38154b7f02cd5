import Derived.Test.YtgalgjmhdbncbaaM7
namespace Go.Proofs.Ytgalgjmhdbncbaa

/-! ### the document's own example: an empty text, a key and a nonce of bytes 0 -/
def WZ : List UInt8 := [0, 0, 0, 0, 0, 0, 0, 0, 0, 0, 0, 0, 0, 0, 0, 0, 98, 99, 99, 99, 98, 99, 99, 99, 98, 99, 99, 99, 98, 99, 99, 99, 155, 152, 152, 201, 249, 251, 251, 170, 155, 152, 152, 201, 249, 251, 251, 170, 144, 151, 52, 80, 105, 108, 207, 250, 242, 244, 87, 51, 11, 15, 172, 153, 238, 6, 218, 123, 135, 106, 21, 129, 117, 158, 66, 178, 126, 145, 238, 43, 127, 46, 43, 136, 248, 68, 62, 9, 141, 218, 124, 187, 243, 75, 146, 144, 236, 97, 75, 133, 20, 37, 117, 140, 153, 255, 9, 55, 106, 180, 155, 167, 33, 117, 23, 135, 53, 80, 98, 11, 172, 175, 107, 60, 198, 27, 240, 155, 14, 249, 3, 51, 59, 169, 97, 56, 151, 6, 10, 4, 81, 29, 250, 159, 177, 212, 216, 226, 138, 125, 185, 218, 29, 123, 179, 222, 76, 102, 73, 65, 180, 239, 91, 203, 62, 146, 226, 17, 35, 233, 81, 207, 111, 143, 24, 142]
def TZ : List (List UInt8) := [[0, 0, 0, 0, 0, 0, 0, 0, 0, 0, 0, 0, 0, 0, 0, 1],
  [30, 31, 33, 62, 1, 0, 0, 0, 1, 0, 0, 0, 1, 0, 0, 0],
  [218, 234, 234, 153, 117, 86, 239, 81, 88, 93, 195, 21, 90, 218, 36, 75],
  [107, 120, 64, 75, 68, 221, 91, 251, 137, 115, 23, 228, 120, 135, 219, 170],
  [20, 71, 112, 136, 49, 23, 38, 231, 31, 3, 241, 64, 146, 108, 39, 163],
  [48, 221, 102, 216, 232, 254, 86, 127, 35, 221, 233, 210, 104, 84, 147, 4],
  [222, 216, 197, 211, 220, 57, 47, 229, 84, 30, 4, 241, 188, 21, 162, 105],
  [38, 184, 247, 169, 232, 26, 72, 30, 120, 21, 53, 10, 27, 34, 38, 25],
  [68, 36, 6, 182, 217, 81, 56, 157, 64, 77, 99, 196, 149, 251, 52, 133],
  [131, 247, 93, 208, 136, 243, 141, 226, 47, 131, 137, 25, 89, 53, 127, 54]]
def OZ : List UInt8 := [88, 226, 252, 206, 250, 126, 48, 97, 54, 127, 29, 87, 164, 231, 69, 90]
set_option maxRecDepth 100000 in
theorem chkZ : ∀ t : Fin 40, ∀ i : Fin 4, wG WZ (16 + 4 * t.val + i.val) = wG WZ (4 * t.val + i.val) ^^^ sw sbG 16 (16 + 4 * t.val) (rcF 16 t.val) (wG WZ) i.val := by decide +kernel
set_option maxRecDepth 100000 in
theorem rndZ : ∀ i : Fin 9, ∀ j : Fin 16, mx (ssG (wG (TZ.getD i.val []))) j.val ^^^ wG WZ (16 * (i.val + 1) + j.val) = wG (TZ.getD (i.val + 1) []) j.val := by decide +kernel
set_option maxRecDepth 100000 in
theorem begZ : ∀ j : Fin 16, (if j.val = 15 then 1 else 0 : UInt8) ^^^ wG WZ (16 * 0 + j.val) = wG (TZ.getD 0 []) j.val := by decide +kernel
set_option maxRecDepth 100000 in
theorem endZ : ∀ j : Fin 16, ssG (wG (TZ.getD 9 [])) j.val ^^^ wG WZ (16 * 10 + j.val) = wG OZ j.val := by decide +kernel
set_option maxRecDepth 100000 in
theorem keyZ : ∀ j : Fin 16, (0 : UInt8) = wG WZ j.val := by decide +kernel
theorem knownZ (j : Nat) (hj : j < 16) : aesF (fun _ => 0) (fun j => if j = 15 then 1 else 0) 16 j = wG OZ j := by
  have hk : ∀ j, j < 16 * 10 + 16 → ksF (fun _ => 0) 16 j = wG WZ j := by
    intro j hj
    unfold ksF
    rw [sbx_eq]
    exact sched_lit 16 (fun _ => 0) WZ 40 (by omega) (fun j hj => keyZ ⟨j, hj⟩) (fun t ht i hi => chkZ ⟨t, ht⟩ ⟨i, hi⟩) 40 (Nat.le_refl _) j (by omega)
  have hs := st_lit (ksF (fun _ => 0) 16) (fun j => if j = 15 then 1 else 0) WZ TZ 10 hk (fun j hj => begZ ⟨j, hj⟩)
    (fun i hi j hj => by rw [ss_eq]; exact rndZ ⟨i, by omega⟩ ⟨j, hj⟩) 9 (by omega)
  show ssF (stF (ksF (fun _ => 0) 16) (fun j => if j = 15 then 1 else 0) 9) j ^^^ ksF (fun _ => 0) 16 (16 * 10 + j) = _
  rw [ss_congr hs j hj, hk _ (by omega), ss_eq]
  exact endZ ⟨j, hj⟩
theorem sf_zs' (n : Nat) : sf (zs n) = fun _ => 0 := funext fun j => sf_zs n j
theorem zs0 : zs 0 = ⟨#[]⟩ := rfl
theorem seal_known : sealT (zs 16) (zs 12) ⟨#[]⟩ ⟨#[]⟩ = ⟨OZ.toArray⟩ := by
  rw [← zs0]
  have hn : (zs 12).size = 12 := zs_size 12
  have hJ : ∀ j, j < 16 → firstF (zs 16) (zs 12) j = if j = 15 then 1 else 0 := by
    have : ∀ j : Fin 16, sf (zs 12 ++ numT 1 4) j.val = if j.val = 15 then 1 else 0 := by decide +kernel
    intro j hj
    unfold firstF
    rw [if_pos hn]
    exact this ⟨j, hj⟩
  have h0 : tagT (zs 0) (zs 0) = zs 16 := by decide +kernel
  have ht : ∀ j, j < 16 → tagF (zs 16) (firstF (zs 16) (zs 12)) (zs 0) (zs 0) j = wG OZ j := by
    intro j hj
    unfold tagF
    rw [h0, sf_zs', hashN_zero, zs_size]
    have he : aesF (fun _ => 0) (firstF (zs 16) (zs 12)) 16 j = aesF (fun _ => 0) (fun j => if j = 15 then 1 else 0) 16 j := enc_congr (ksF (fun _ => 0) 16) (16 / 4 + 6) hJ j hj
    rw [he, knownZ j hj]
    exact UInt8.zero_xor
  have hm : maskT (zs 16) (firstF (zs 16) (zs 12)) (zs 0) = zs 0 := by
    apply bytes_ext
    · rw [maskT_size]
    · intro j hj
      rw [maskT_size, zs_size] at hj
      omega
  unfold sealT
  rw [hm, str_congr ht]
  decide +kernel
end Go.Proofs.Ytgalgjmhdbncbaa
