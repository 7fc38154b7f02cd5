package blocks

import (
	"strings"
	"testing"
)

func TestOf(t *testing.T) {
	for n := range 40 {
		text := strings.Repeat("b", n)
		b, ok := Of(text)
		if ok != (n == 16) {
			t.Errorf("Of %d bytes: %t", n, ok)
		}
		if ok && b.Text() != text || !ok && b != (Block{}) {
			t.Errorf("Of %d bytes is %x", n, b)
		}
	}
}

func TestXorLeavesItsBlocks(t *testing.T) {
	one, other := Block{0: 0x0f, 15: 0xff}, Block{0: 0xff, 15: 0xff}
	if got := one.Xor(other); got != (Block{0: 0xf0}) {
		t.Errorf("xored: %x", got)
	}
	if one != (Block{0: 0x0f, 15: 0xff}) || other != (Block{0: 0xff, 15: 0xff}) {
		t.Errorf("the blocks are now %x, %x", one, other)
	}
}

func TestPolyAndBack(t *testing.T) {
	var b Block
	for i := range b {
		b[i] = byte(17 * i)
	}
	if got := polyOf(b).block(); got != b {
		t.Errorf("%x comes back as %x", b, got)
	}
}

// TestTimes asks for what every product of a field has.
func TestTimes(t *testing.T) {
	one := Block{0: 0x80}
	a, b, c := Block{0: 0xc3, 7: 0x11, 8: 0x80, 15: 0x5a}, Block{1: 0x7e, 9: 0x99, 15: 0xff}, Block{0: 1, 15: 1}
	if a.Times(one) != a || one.Times(a) != a {
		t.Error("times 1 is another block")
	}
	if a.Times(Block{}) != (Block{}) {
		t.Error("times 0 is not 0")
	}
	if a.Times(b) != b.Times(a) {
		t.Error("the order matters")
	}
	if a.Times(b).Times(c) != a.Times(b.Times(c)) {
		t.Error("the brackets matter")
	}
	if a.Xor(b).Times(c) != a.Times(c).Xor(b.Times(c)) {
		t.Error("the product of a sum is not the sum of the products")
	}
}

func TestHashOfNoWholeBlocks(t *testing.T) {
	for _, n := range []int{1, 15, 17, 31, 33} {
		if got, ok := Hash(Block{0: 0x80}, strings.Repeat("s", n)); ok || got != (Block{}) {
			t.Errorf("Hash of %d bytes = %x, %t", n, got, ok)
		}
	}
}
