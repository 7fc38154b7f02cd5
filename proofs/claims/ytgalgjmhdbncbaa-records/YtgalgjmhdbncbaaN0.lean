import Derived.Test.YtgalgjmhdbncbaaB1
namespace Go.Proofs.Ytgalgjmhdbncbaa

/-! ### numbers and padded texts, by the document -/
/-- v in n bytes, the highest first -/
def numF (v n : Nat) (j : Nat) : UInt8 := UInt8.ofNat (v / 256 ^ (n - 1 - j))
def numT (v n : Nat) : ByteArray := str n (numF v n)
def up16 (n : Nat) : Nat := (n + 15) / 16 * 16
def padT (s : ByteArray) : ByteArray := str (up16 s.size) (sf s)
def valF (f : Nat → UInt8) (at' : Nat) : Nat → Nat
  | 0 => 0
  | n + 1 => valF f at' n * 256 + (f (at' + n)).toNat
theorem up16_le (n : Nat) : n ≤ up16 n := by unfold up16; omega
theorem up16_mod (n : Nat) : up16 n % 16 = 0 := by unfold up16; omega
theorem up16_up (n : Nat) : up16 n < n + 16 := by unfold up16; omega
theorem padT_size (s : ByteArray) : (padT s).size = up16 s.size := str_size _ _
theorem numT_size (v n : Nat) : (numT v n).size = n := str_size _ _
end Go.Proofs.Ytgalgjmhdbncbaa
