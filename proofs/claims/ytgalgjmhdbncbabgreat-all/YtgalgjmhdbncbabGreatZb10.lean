import Derived.Test.YtgalgjmhdbncbabGreatZb09
namespace Go.Proofs.YtgalgjmhdbncbabGreat
def sbL : List UInt8 := [99, 124, 119, 123, 242, 107, 111, 197, 48, 1, 103, 43, 254, 215, 171, 118, 202, 130, 201, 125, 250, 89, 71, 240, 173, 212, 162, 175, 156, 164, 114, 192, 183, 253, 147, 38, 54, 63, 247, 204, 52, 165, 229, 241, 113, 216, 49, 21, 4, 199, 35, 195, 24, 150, 5, 154, 7, 18, 128, 226, 235, 39, 178, 117, 9, 131, 44, 26, 27, 110, 90, 160, 82, 59, 214, 179, 41, 227, 47, 132, 83, 209, 0, 237, 32, 252, 177, 91, 106, 203, 190, 57, 74, 76, 88, 207, 208, 239, 170, 251, 67, 77, 51, 133, 69, 249, 2, 127, 80, 60, 159, 168, 81, 163, 64, 143, 146, 157, 56, 245, 188, 182, 218, 33, 16, 255, 243, 210, 205, 12, 19, 236, 95, 151, 68, 23, 196, 167, 126, 61, 100, 93, 25, 115, 96, 129, 79, 220, 34, 42, 144, 136, 70, 238, 184, 20, 222, 94, 11, 219, 224, 50, 58, 10, 73, 6, 36, 92, 194, 211, 172, 98, 145, 149, 228, 121, 231, 200, 55, 109, 141, 213, 78, 169, 108, 86, 244, 234, 101, 122, 174, 8, 186, 120, 37, 46, 28, 166, 180, 198, 232, 221, 116, 31, 75, 189, 139, 138, 112, 62, 181, 102, 72, 3, 246, 14, 97, 53, 87, 185, 134, 193, 29, 158, 225, 248, 152, 17, 105, 217, 142, 148, 155, 30, 135, 233, 206, 85, 40, 223, 140, 161, 137, 13, 191, 230, 66, 104, 65, 153, 45, 15, 176, 84, 187, 22]
def invL : List Nat := [82, 9, 106, 213, 48, 54, 165, 56, 191, 64, 163, 158, 129, 243, 215, 251, 124, 227, 57, 130, 155, 47, 255, 135, 52, 142, 67, 68, 196, 222, 233, 203, 84, 123, 148, 50, 166, 194, 35, 61, 238, 76, 149, 11, 66, 250, 195, 78, 8, 46, 161, 102, 40, 217, 36, 178, 118, 91, 162, 73, 109, 139, 209, 37, 114, 248, 246, 100, 134, 104, 152, 22, 212, 164, 92, 204, 93, 101, 182, 146, 108, 112, 72, 80, 253, 237, 185, 218, 94, 21, 70, 87, 167, 141, 157, 132, 144, 216, 171, 0, 140, 188, 211, 10, 247, 228, 88, 5, 184, 179, 69, 6, 208, 44, 30, 143, 202, 63, 15, 2, 193, 175, 189, 3, 1, 19, 138, 107, 58, 145, 17, 65, 79, 103, 220, 234, 151, 242, 207, 206, 240, 180, 230, 115, 150, 172, 116, 34, 231, 173, 53, 133, 226, 249, 55, 232, 28, 117, 223, 110, 71, 241, 26, 113, 29, 41, 197, 137, 111, 183, 98, 14, 170, 24, 190, 27, 252, 86, 62, 75, 198, 210, 121, 32, 154, 219, 192, 254, 120, 205, 90, 244, 31, 221, 168, 51, 136, 7, 199, 49, 177, 18, 16, 89, 39, 128, 236, 95, 96, 81, 127, 169, 25, 181, 74, 13, 45, 229, 122, 159, 147, 201, 156, 239, 160, 224, 59, 77, 174, 42, 245, 176, 200, 235, 187, 60, 131, 83, 153, 97, 23, 43, 4, 126, 186, 119, 214, 38, 225, 105, 20, 99, 85, 33, 12, 125]
def W16 : List UInt8 := [0, 1, 2, 3, 4, 5, 6, 7, 8, 9, 10, 11, 12, 13, 14, 15, 214, 170, 116, 253, 210, 175, 114, 250, 218, 166, 120, 241, 214, 171, 118, 254, 182, 146, 207, 11, 100, 61, 189, 241, 190, 155, 197, 0, 104, 48, 179, 254, 182, 255, 116, 78, 210, 194, 201, 191, 108, 89, 12, 191, 4, 105, 191, 65, 71, 247, 247, 188, 149, 53, 62, 3, 249, 108, 50, 188, 253, 5, 141, 253, 60, 170, 163, 232, 169, 159, 157, 235, 80, 243, 175, 87, 173, 246, 34, 170, 94, 57, 15, 125, 247, 166, 146, 150, 167, 85, 61, 193, 10, 163, 31, 107, 20, 249, 112, 26, 227, 95, 226, 140, 68, 10, 223, 77, 78, 169, 192, 38, 71, 67, 135, 53, 164, 28, 101, 185, 224, 22, 186, 244, 174, 191, 122, 210, 84, 153, 50, 209, 240, 133, 87, 104, 16, 147, 237, 156, 190, 44, 151, 78, 19, 17, 29, 127, 227, 148, 74, 23, 243, 7, 167, 139, 77, 43, 48, 197]
def T16 : List (List UInt8) := [[0, 16, 32, 48, 64, 80, 96, 112, 128, 144, 160, 176, 192, 208, 224, 240],
  [137, 216, 16, 232, 133, 90, 206, 104, 45, 24, 67, 216, 203, 18, 143, 228],
  [73, 21, 89, 143, 85, 229, 215, 160, 218, 202, 148, 250, 31, 10, 99, 247],
  [250, 99, 106, 40, 37, 179, 57, 201, 64, 102, 138, 49, 87, 36, 77, 23],
  [36, 114, 64, 35, 105, 102, 179, 250, 110, 210, 117, 50, 136, 66, 91, 108],
  [200, 22, 119, 188, 155, 122, 201, 59, 37, 2, 121, 146, 176, 38, 25, 150],
  [198, 47, 225, 9, 247, 94, 237, 195, 204, 121, 57, 93, 132, 249, 207, 93],
  [209, 135, 108, 15, 121, 196, 48, 10, 180, 85, 148, 173, 214, 111, 244, 31],
  [253, 227, 186, 210, 5, 229, 208, 215, 53, 71, 150, 78, 241, 254, 55, 241],
  [189, 110, 124, 61, 242, 181, 119, 158, 11, 97, 33, 110, 139, 16, 182, 137]]
def O16 : List UInt8 := [105, 196, 224, 216, 106, 123, 4, 48, 216, 205, 183, 128, 112, 180, 197, 90]
def W32 : List UInt8 := [0, 1, 2, 3, 4, 5, 6, 7, 8, 9, 10, 11, 12, 13, 14, 15, 16, 17, 18, 19, 20, 21, 22, 23, 24, 25, 26, 27, 28, 29, 30, 31, 165, 115, 194, 159, 161, 118, 196, 152, 169, 127, 206, 147, 165, 114, 192, 156, 22, 81, 168, 205, 2, 68, 190, 218, 26, 93, 164, 193, 6, 64, 186, 222, 174, 135, 223, 240, 15, 241, 27, 104, 166, 142, 213, 251, 3, 252, 21, 103, 109, 225, 241, 72, 111, 165, 79, 146, 117, 248, 235, 83, 115, 184, 81, 141, 198, 86, 130, 127, 201, 167, 153, 23, 111, 41, 76, 236, 108, 213, 89, 139, 61, 226, 58, 117, 82, 71, 117, 231, 39, 191, 158, 180, 84, 7, 207, 57, 11, 220, 144, 95, 194, 123, 9, 72, 173, 82, 69, 164, 193, 135, 28, 47, 69, 245, 166, 96, 23, 178, 211, 135, 48, 13, 77, 51, 100, 10, 130, 10, 124, 207, 247, 28, 190, 180, 254, 84, 19, 230, 187, 240, 210, 97, 167, 223, 240, 26, 250, 254, 231, 168, 41, 121, 215, 165, 100, 74, 179, 175, 230, 64, 37, 65, 254, 113, 155, 245, 0, 37, 136, 19, 187, 213, 90, 114, 28, 10, 78, 90, 102, 153, 169, 242, 79, 224, 126, 87, 43, 170, 205, 248, 205, 234, 36, 252, 121, 204, 191, 9, 121, 233, 55, 26, 194, 60, 109, 104, 222, 54]
def T32 : List (List UInt8) := [[0, 16, 32, 48, 64, 80, 96, 112, 128, 144, 160, 176, 192, 208, 224, 240],
  [79, 99, 118, 6, 67, 224, 170, 133, 239, 167, 33, 50, 1, 164, 231, 5],
  [24, 89, 251, 194, 138, 28, 0, 160, 120, 237, 138, 173, 196, 47, 97, 9],
  [151, 92, 102, 193, 203, 159, 63, 168, 169, 58, 40, 223, 142, 225, 15, 99],
  [28, 5, 242, 113, 164, 23, 224, 79, 249, 33, 197, 193, 4, 112, 21, 84],
  [195, 87, 170, 225, 27, 69, 183, 176, 162, 199, 189, 40, 168, 220, 153, 250],
  [127, 7, 65, 67, 203, 78, 36, 62, 193, 12, 129, 93, 131, 117, 213, 76],
  [214, 83, 164, 105, 108, 160, 188, 15, 90, 202, 171, 93, 185, 108, 94, 125],
  [90, 168, 88, 57, 95, 210, 141, 125, 5, 225, 163, 136, 104, 243, 185, 197],
  [74, 130, 72, 81, 197, 126, 126, 71, 100, 61, 229, 12, 42, 243, 232, 201],
  [193, 73, 7, 246, 202, 59, 58, 160, 112, 233, 170, 49, 59, 82, 181, 236],
  [95, 156, 106, 191, 186, 198, 52, 170, 80, 64, 159, 167, 102, 103, 118, 83],
  [81, 102, 4, 149, 67, 83, 149, 3, 20, 251, 134, 228, 1, 146, 37, 33],
  [98, 123, 206, 185, 153, 157, 90, 170, 201, 69, 236, 244, 35, 245, 109, 165]]
def O32 : List UInt8 := [142, 162, 183, 202, 81, 103, 69, 191, 234, 252, 73, 144, 75, 73, 96, 137]
set_option maxRecDepth 100000 in
theorem boxL_lit : boxL 255 = sbL := by decide +kernel
def sbG (j : Nat) : UInt8 := sbL.getD j 0
theorem sbx_eq : sbx = sbG := by
  funext j
  show (boxL 255).getD j 0 = sbL.getD j 0
  rw [boxL_lit]
set_option maxRecDepth 100000 in
theorem inv_sb : ∀ i : Fin 256, invL.getD (sbG i.val).toNat 0 = i.val := by decide +kernel
theorem sbx_inj (a b : UInt8) (h : sbx a.toNat = sbx b.toNat) : a = b := by
  rw [sbx_eq] at h
  have h1 := inv_sb ⟨a.toNat, a.toNat_lt⟩
  have h2 := inv_sb ⟨b.toNat, b.toNat_lt⟩
  simp only at h1 h2
  rw [h] at h1
  exact UInt8.toNat_inj.1 (h1.symm.trans h2)

theorem dbl_alt : ∀ n : Fin 256, dbl (UInt8.ofNat n.val) = (UInt8.ofNat n.val <<< 1) ^^^ (if (UInt8.ofNat n.val).toBitVec.getLsbD 7 = true then 27 else 0) := by decide +kernel
theorem dbl_alt' (b : UInt8) : dbl b = (b <<< 1) ^^^ (if b.toBitVec.getLsbD 7 = true then 27 else 0) := by
  have h := dbl_alt ⟨b.toNat, b.toNat_lt⟩
  simp only [UInt8.ofNat_toNat] at h
  exact h
theorem shl_xor (a b : UInt8) : (a ^^^ b) <<< 1 = (a <<< 1) ^^^ (b <<< 1) := by
  apply UInt8.eq_of_toBitVec_eq
  apply BitVec.eq_of_getLsbD_eq
  intro i hi
  simp
  by_cases h : i = 0
  · simp [h]
  · simp [h, hi]
theorem x_can (a b : UInt8) : a ^^^ (a ^^^ b) = b := by rw [← UInt8.xor_assoc, UInt8.xor_self, UInt8.zero_xor]
theorem x_lc (a b c : UInt8) : a ^^^ (b ^^^ c) = b ^^^ (a ^^^ c) := by rw [← UInt8.xor_assoc, UInt8.xor_comm a b, UInt8.xor_assoc]
theorem dbl_xor (a b : UInt8) : dbl (a ^^^ b) = dbl a ^^^ dbl b := by
  rw [dbl_alt', dbl_alt', dbl_alt', shl_xor]
  have h : (a ^^^ b).toBitVec.getLsbD 7 = (a.toBitVec.getLsbD 7 ^^ b.toBitVec.getLsbD 7) := by simp
  rw [h]
  generalize a <<< 1 = x
  generalize b <<< 1 = y
  cases a.toBitVec.getLsbD 7 <;> cases b.toBitVec.getLsbD 7 <;> simp [UInt8.xor_assoc, UInt8.xor_comm, x_lc]
set_option maxHeartbeats 1000000 in
theorem sumM (a b c d s : UInt8) : (a ^^^ s ^^^ dbl (a ^^^ b)) ^^^ (b ^^^ s ^^^ dbl (b ^^^ c)) ^^^ (c ^^^ s ^^^ dbl (c ^^^ d)) ^^^ (d ^^^ s ^^^ dbl (d ^^^ a)) = a ^^^ b ^^^ c ^^^ d := by
  simp only [dbl_xor]
  generalize dbl a = da
  generalize dbl b = db
  generalize dbl c = dc
  generalize dbl d = dd
  simp only [UInt8.xor_comm, x_lc, x_can, UInt8.xor_self, UInt8.xor_zero]
set_option maxHeartbeats 1000000 in
theorem keyM (x y z s : UInt8) : (x ^^^ s ^^^ dbl (x ^^^ y)) ^^^ s ^^^ dbl ((x ^^^ s ^^^ dbl (x ^^^ y)) ^^^ (y ^^^ s ^^^ dbl (y ^^^ z))) = x ^^^ dbl (dbl (x ^^^ z)) := by
  simp only [dbl_xor]
  generalize dbl (dbl x) = ddx
  generalize dbl (dbl y) = ddy
  generalize dbl (dbl z) = ddz
  generalize dbl x = dx
  generalize dbl y = dy
  generalize dbl z = dz
  generalize dbl s = ds
  simp only [UInt8.xor_comm, x_lc, x_can, UInt8.xor_self, UInt8.xor_zero]
theorem mx2 (f : Nat → UInt8) (c i : Nat) (hi : i < 4) : mx (mx f) (4 * c + i) = f (4 * c + i) ^^^ dbl (dbl (f (4 * c + i) ^^^ f (4 * c + (i + 2) % 4))) := by
  have e0 := mx_at f c 0 (by omega)
  have e1 := mx_at f c 1 (by omega)
  have e2 := mx_at f c 2 (by omega)
  have e3 := mx_at f c 3 (by omega)
  rw [mx_at (mx f) c i hi]
  simp only [Nat.add_zero, Nat.zero_add, show (0 + 1) % 4 = 1 from rfl, show (1 + 1) % 4 = 2 from rfl, show (2 + 1) % 4 = 3 from rfl, show (3 + 1) % 4 = 0 from rfl] at e0 e1 e2 e3
  rw [e0, e1, e2, e3, sumM]
  generalize f (4 * c) ^^^ f (4 * c + 1) ^^^ f (4 * c + 2) ^^^ f (4 * c + 3) = s at *
  match i, hi with
  | 0, _ =>
    show mx f (4 * c) ^^^ s ^^^ dbl (mx f (4 * c) ^^^ mx f (4 * c + 1)) = _
    rw [e0, e1]; exact keyM _ _ _ _
  | 1, _ =>
    show mx f (4 * c + 1) ^^^ s ^^^ dbl (mx f (4 * c + 1) ^^^ mx f (4 * c + 2)) = _
    rw [e1, e2]; exact keyM _ _ _ _
  | 2, _ =>
    show mx f (4 * c + 2) ^^^ s ^^^ dbl (mx f (4 * c + 2) ^^^ mx f (4 * c + 3)) = _
    rw [e2, e3]; exact keyM _ _ _ _
  | 3, _ =>
    show mx f (4 * c + 3) ^^^ s ^^^ dbl (mx f (4 * c + 3) ^^^ mx f (4 * c)) = _
    rw [e3, e0]; exact keyM _ _ _ _
theorem mx4 (f : Nat → UInt8) (j : Nat) : mx (mx (mx (mx f))) j = f j := by
  have h : j = 4 * (j / 4) + j % 4 := by omega
  rw [h]
  generalize j / 4 = c
  have hi : j % 4 < 4 := by omega
  generalize j % 4 = i at hi
  rw [mx2 (mx (mx f)) c i hi, mx2 f c i hi, mx2 f c ((i + 2) % 4) (by omega), show ((i + 2) % 4 + 2) % 4 = i by omega]
  generalize f (4 * c + i) = a
  generalize f (4 * c + (i + 2) % 4) = b
  simp only [dbl_xor]
  generalize dbl (dbl (dbl (dbl a))) = a4
  generalize dbl (dbl (dbl (dbl b))) = b4
  generalize dbl (dbl a) = a2
  generalize dbl (dbl b) = b2
  simp only [UInt8.xor_comm, x_lc, x_can, UInt8.xor_self, UInt8.xor_zero]
def Eq16 (f g : Nat → UInt8) : Prop := ∀ j, j < 16 → f j = g j
theorem mx_congr {f g : Nat → UInt8} (h : Eq16 f g) : Eq16 (mx f) (mx g) := by
  intro j hj
  unfold mx
  rw [h j hj, h _ (by omega), h (j / 4 * 4 + 1) (by omega), h (j / 4 * 4 + 2) (by omega), h (j / 4 * 4 + 3) (by omega), h (j / 4 * 4 + (j % 4 + 1) % 4) (by omega)]
theorem mx_inj {f g : Nat → UInt8} (h : Eq16 (mx f) (mx g)) : Eq16 f g := by
  intro j hj
  have := mx_congr (mx_congr (mx_congr h)) j hj
  rwa [mx4, mx4] at this
theorem ss_inj {f g : Nat → UInt8} (h : Eq16 (ssF f) (ssF g)) : Eq16 f g := by
  intro p hp
  have := h ((p + 12 * (p % 4)) % 16) (by omega)
  unfold ssF at this
  rw [show ((p + 12 * (p % 4)) % 16 + (p + 12 * (p % 4)) % 16 % 4 * 4) % 16 = p by omega] at this
  exact sbx_inj _ _ this
theorem x_right {a b c : UInt8} (h : a ^^^ c = b ^^^ c) : a = b := by
  have := congrArg (· ^^^ c) h
  simpa [UInt8.xor_assoc, UInt8.xor_self] using this
theorem st_inj (ks f g : Nat → UInt8) : ∀ i, Eq16 (stF ks f i) (stF ks g i) → Eq16 f g
  | 0, h => fun j hj => x_right (h j hj)
  | i + 1, h => st_inj ks f g i (ss_inj (mx_inj (fun j hj => x_right (h j hj))))
theorem enc_inj (ks f g : Nat → UInt8) (r : Nat) (h : Eq16 (encF ks f r) (encF ks g r)) : Eq16 f g :=
  st_inj ks f g (r - 1) (ss_inj (fun j hj => x_right (h j hj)))
theorem ss_congr {f g : Nat → UInt8} (h : Eq16 f g) : Eq16 (ssF f) (ssF g) := by
  intro j hj
  unfold ssF
  rw [h _ (by omega)]
theorem st_congr (ks : Nat → UInt8) {f g : Nat → UInt8} (h : Eq16 f g) : ∀ i, Eq16 (stF ks f i) (stF ks g i)
  | 0 => fun j hj => by simp only [stF]; rw [h j hj]
  | i + 1 => fun j hj => by simp only [stF]; rw [mx_congr (ss_congr (st_congr ks h i)) j hj]
theorem enc_congr (ks : Nat → UInt8) {f g : Nat → UInt8} (r : Nat) (h : Eq16 f g) : Eq16 (encF ks f r) (encF ks g r) := by
  intro j hj
  unfold encF
  rw [ss_congr (st_congr ks h (r - 1)) j hj]
theorem aes_str (key : Nat → UInt8) (n : Nat) (f g : Nat → UInt8) : str 16 (aesF key f n) = str 16 (aesF key g n) ↔ str 16 f = str 16 g := by
  constructor
  · intro h
    apply str_congr
    refine enc_inj (ksF key n) f g (n / 4 + 6) (fun j hj => ?_)
    have := congrArg (fun s => sf s j) h
    simpa [sf_str 16 _ j hj, aesF] using this
  · intro h
    apply str_congr
    refine enc_congr (ksF key n) (n / 4 + 6) (fun j hj => ?_)
    have := congrArg (fun s => sf s j) h
    simpa [sf_str 16 _ j hj] using this

def rcF (n : Nat) : Nat → UInt8
  | 0 => 1
  | t + 1 => if (n + 4 * t) % n = 0 then dbl (rcF n t) else rcF n t
theorem kx_rc (bx f : Nat → UInt8) (n : Nat) : ∀ t, (kxR bx f n t).2 = rcF n t
  | 0 => rfl
  | t + 1 => by simp only [kxR, rcF]; rw [kx_rc bx f n t]
def wG (W : List UInt8) (j : Nat) : UInt8 := W.getD j 0
theorem sched_lit (n : Nat) (f : Nat → UInt8) (W : List UInt8) (T : Nat) (hn : 4 ≤ n) (h0 : ∀ j, j < n → f j = wG W j)
    (chk : ∀ t, t < T → ∀ i, i < 4 → wG W (n + 4 * t + i) = wG W (4 * t + i) ^^^ sw sbG n (n + 4 * t) (rcF n t) (wG W) i) :
    ∀ t, t ≤ T → ∀ j, j < n + 4 * t → (kxR sbG f n t).1 j = wG W j
  | 0, _, j, hj => by
    simp only [kxR]
    rw [if_pos (by omega)]
    exact h0 j (by omega)
  | t + 1, ht, j, hj => by
    have ih := sched_lit n f W T hn h0 chk t (by omega)
    simp only [kxR]
    by_cases h : n + 4 * t ≤ j ∧ j < n + 4 * t + 4
    · rw [if_pos h]
      have c := chk t (by omega) (j - (n + 4 * t)) (by omega)
      rw [show n + 4 * t + (j - (n + 4 * t)) = j by omega, show 4 * t + (j - (n + 4 * t)) = j - n by omega] at c
      rw [c, ih (j - n) (by omega), kx_rc]
      congr 1
      unfold sw
      have hp : 4 ≤ n + 4 * t := by omega
      rw [ih (n + 4 * t - 4 + (j - (n + 4 * t) + 1) % 4) (by omega), ih (n + 4 * t - 4 + (j - (n + 4 * t))) (by omega)]
    · rw [if_neg h]
      exact ih j (by omega)
theorem st_lit (ks f : Nat → UInt8) (W : List UInt8) (T : List (List UInt8)) (r : Nat) (hk : ∀ j, j < 16 * r + 16 → ks j = wG W j)
    (h0 : ∀ j, j < 16 → f j ^^^ wG W (16 * 0 + j) = wG (T.getD 0 []) j)
    (chk : ∀ i, i + 1 < r → ∀ j, j < 16 → mx (ssF (wG (T.getD i []))) j ^^^ wG W (16 * (i + 1) + j) = wG (T.getD (i + 1) []) j) :
    ∀ i, i < r → Eq16 (stF ks f i) (wG (T.getD i []))
  | 0, _ => fun j hj => by
    simp only [stF]
    rw [hk _ (by omega)]
    exact h0 j hj
  | i + 1, hi => fun j hj => by
    have ih := st_lit ks f W T r hk h0 chk i (by omega)
    simp only [stF]
    rw [mx_congr (ss_congr ih) j hj, hk _ (by omega)]
    exact chk i hi j hj
set_option maxRecDepth 100000 in
theorem chk16 : ∀ t : Fin 40, ∀ i : Fin 4, wG W16 (16 + 4 * t.val + i.val) = wG W16 (4 * t.val + i.val) ^^^ sw sbG 16 (16 + 4 * t.val) (rcF 16 t.val) (wG W16) i.val := by decide +kernel
set_option maxRecDepth 100000 in
theorem chk32 : ∀ t : Fin 52, ∀ i : Fin 4, wG W32 (32 + 4 * t.val + i.val) = wG W32 (4 * t.val + i.val) ^^^ sw sbG 32 (32 + 4 * t.val) (rcF 32 t.val) (wG W32) i.val := by decide +kernel
def ssG (f : Nat → UInt8) (j : Nat) : UInt8 := sbG (f ((j + j % 4 * 4) % 16)).toNat
theorem ss_eq : ssF = ssG := by
  funext f j
  unfold ssF ssG
  rw [sbx_eq]
set_option maxRecDepth 100000 in
theorem rnd16 : ∀ i : Fin 9, ∀ j : Fin 16, mx (ssG (wG (T16.getD i.val []))) j.val ^^^ wG W16 (16 * (i.val + 1) + j.val) = wG (T16.getD (i.val + 1) []) j.val := by decide +kernel
set_option maxRecDepth 100000 in
theorem beg16 : ∀ j : Fin 16, UInt8.ofNat (17 * j.val) ^^^ wG W16 (16 * 0 + j.val) = wG (T16.getD 0 []) j.val := by decide +kernel
set_option maxRecDepth 100000 in
theorem end16 : ∀ j : Fin 16, ssG (wG (T16.getD 9 [])) j.val ^^^ wG W16 (16 * 10 + j.val) = wG O16 j.val := by decide +kernel
set_option maxRecDepth 100000 in
theorem key16 : ∀ j : Fin 16, UInt8.ofNat j.val = wG W16 j.val := by decide +kernel
theorem known16 : str 16 (aesF (fun j => UInt8.ofNat j) (fun j => UInt8.ofNat (17 * j)) 16) = ⟨O16.toArray⟩ := by
  have hk : ∀ j, j < 16 * 10 + 16 → ksF (fun j => UInt8.ofNat j) 16 j = wG W16 j := by
    intro j hj
    unfold ksF
    rw [sbx_eq]
    exact sched_lit 16 (fun j => UInt8.ofNat j) W16 40 (by omega) (fun j hj => key16 ⟨j, hj⟩) (fun t ht i hi => chk16 ⟨t, ht⟩ ⟨i, hi⟩) 40 (Nat.le_refl _) j (by omega)
  have hs := st_lit (ksF (fun j => UInt8.ofNat j) 16) (fun j => UInt8.ofNat (17 * j)) W16 T16 10 hk (fun j hj => beg16 ⟨j, hj⟩)
    (fun i hi j hj => by rw [ss_eq]; exact rnd16 ⟨i, by omega⟩ ⟨j, hj⟩) 9 (by omega)
  have e : ∀ j, j < 16 → aesF (fun j => UInt8.ofNat j) (fun j => UInt8.ofNat (17 * j)) 16 j = wG O16 j := by
    intro j hj
    show ssF (stF (ksF (fun j => UInt8.ofNat j) 16) (fun j => UInt8.ofNat (17 * j)) 9) j ^^^ ksF (fun j => UInt8.ofNat j) 16 (16 * 10 + j) = _
    rw [ss_congr hs j hj, hk _ (by omega), ss_eq]
    exact end16 ⟨j, hj⟩
  rw [str_congr e]
  decide +kernel
set_option maxRecDepth 100000 in
theorem rnd32 : ∀ i : Fin 13, ∀ j : Fin 16, mx (ssG (wG (T32.getD i.val []))) j.val ^^^ wG W32 (16 * (i.val + 1) + j.val) = wG (T32.getD (i.val + 1) []) j.val := by decide +kernel
set_option maxRecDepth 100000 in
theorem beg32 : ∀ j : Fin 16, UInt8.ofNat (17 * j.val) ^^^ wG W32 (16 * 0 + j.val) = wG (T32.getD 0 []) j.val := by decide +kernel
set_option maxRecDepth 100000 in
theorem end32 : ∀ j : Fin 16, ssG (wG (T32.getD 13 [])) j.val ^^^ wG W32 (16 * 14 + j.val) = wG O32 j.val := by decide +kernel
set_option maxRecDepth 100000 in
theorem key32 : ∀ j : Fin 32, UInt8.ofNat j.val = wG W32 j.val := by decide +kernel
theorem known32 : str 16 (aesF (fun j => UInt8.ofNat j) (fun j => UInt8.ofNat (17 * j)) 32) = ⟨O32.toArray⟩ := by
  have hk : ∀ j, j < 16 * 14 + 16 → ksF (fun j => UInt8.ofNat j) 32 j = wG W32 j := by
    intro j hj
    unfold ksF
    rw [sbx_eq]
    exact sched_lit 32 (fun j => UInt8.ofNat j) W32 52 (by omega) (fun j hj => key32 ⟨j, hj⟩) (fun t ht i hi => chk32 ⟨t, ht⟩ ⟨i, hi⟩) 52 (Nat.le_refl _) j (by omega)
  have hs := st_lit (ksF (fun j => UInt8.ofNat j) 32) (fun j => UInt8.ofNat (17 * j)) W32 T32 14 hk (fun j hj => beg32 ⟨j, hj⟩)
    (fun i hi j hj => by rw [ss_eq]; exact rnd32 ⟨i, by omega⟩ ⟨j, hj⟩) 13 (by omega)
  have e : ∀ j, j < 16 → aesF (fun j => UInt8.ofNat j) (fun j => UInt8.ofNat (17 * j)) 32 j = wG O32 j := by
    intro j hj
    show ssF (stF (ksF (fun j => UInt8.ofNat j) 32) (fun j => UInt8.ofNat (17 * j)) 13) j ^^^ ksF (fun j => UInt8.ofNat j) 32 (16 * 14 + j) = _
    rw [ss_congr hs j hj, hk _ (by omega), ss_eq]
    exact end32 ⟨j, hj⟩
  rw [str_congr e]
  decide +kernel
end Go.Proofs.YtgalgjmhdbncbabGreat
