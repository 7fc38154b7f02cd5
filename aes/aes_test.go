package aes

import (
	"math"
	"strings"
	"testing"
)

func TestSizes(t *testing.T) {
	for _, c := range []struct{ alg, rounds, size int }{
		{1, 10, 16}, {2, 12, 24}, {3, 14, 32},
		{0, 0, 0}, {4, 0, 0}, {-1, 0, 0}, {math.MinInt, 0, 0}, {math.MaxInt, 0, 0},
	} {
		if rounds, size := Sizes(c.alg); rounds != c.rounds || size != c.size {
			t.Errorf("Sizes(%d) = %d, %d, want %d, %d", c.alg, rounds, size, c.rounds, c.size)
		}
	}
}

func TestAlg(t *testing.T) {
	want := map[int]int{16: 1, 24: 2, 32: 3}
	for n := range 100 {
		if got := Alg(strings.Repeat("k", n)); got != want[n] {
			t.Errorf("Alg of %d bytes = %d, want %d", n, got, want[n])
		}
	}
}

func TestNewOfNoKey(t *testing.T) {
	for _, n := range []int{0, 15, 17, 23, 25, 31, 33, 64} {
		if c, ok := New(strings.Repeat("k", n)); c != nil || ok {
			t.Errorf("New of %d bytes is a cipher", n)
		}
	}
}

func TestSubstitution(t *testing.T) {
	box := newSubstitution()
	for at, want := range map[int]byte{0x00: 0x63, 0x01: 0x7c, 0x0f: 0x76, 0x52: 0x00, 0x53: 0xed, 0x9a: 0xb8, 0xff: 0x16} {
		if box[at] != want {
			t.Errorf("S-box at %x = %x, want %x", at, box[at], want)
		}
	}
	var seen [256]bool
	for at, b := range box {
		if seen[b] {
			t.Errorf("S-box at %x: %x is there twice", at, b)
		}
		seen[b] = true
	}
}

// TestSchedule takes the last words of FIPS 197, appendix A.
func TestSchedule(t *testing.T) {
	for _, c := range []struct {
		key    string
		rounds int
		want   string
	}{
		{"\x2b\x7e\x15\x16\x28\xae\xd2\xa6\xab\xf7\x15\x88\x09\xcf\x4f\x3c", 10, "\xb6\x63\x0c\xa6"},
		{"\x8e\x73\xb0\xf7\xda\x0e\x64\x52\xc8\x10\xf3\x2b\x80\x90\x79\xe5\x62\xf8\xea\xd2\x52\x2c\x6b\x7b", 12, "\x01\x00\x22\x02"},
		{"\x60\x3d\xeb\x10\x15\xca\x71\xbe\x2b\x73\xae\xf0\x85\x7d\x77\x81\x1f\x35\x2c\x07\x3b\x61\x08\xd7\x2d\x98\x10\xa3\x09\x14\xdf\xf4", 14, "\x70\x6c\x63\x1e"},
	} {
		keys := schedule(c.key, c.rounds, newSubstitution())
		if got := keys[c.rounds].Text()[12:]; got != c.want {
			t.Errorf("last word of a key of %d bytes = %x, want %x", len(c.key), got, c.want)
		}
	}
}
