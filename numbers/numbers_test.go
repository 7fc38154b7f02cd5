package numbers

import (
	"math"
	"testing"
)

func TestPut(t *testing.T) {
	for _, c := range []struct {
		v    uint64
		want string
	}{
		{0, ""}, {7, ""},
		{0, "\x00"}, {200, "\xc8"}, {0x1ff, "\xff"},
		{258, "\x01\x02"}, {65535, "\xff\xff"}, {65536, "\x00\x00"},
		{1, "\x00\x00\x00\x01"}, {1 << 32, "\x00\x00\x00\x00"},
		{1 << 32, "\x00\x00\x00\x01\x00\x00\x00\x00"}, {math.MaxUint64, "\xff\xff\xff\xff\xff\xff\xff\xff"},
	} {
		part := []byte("what was there ahead of it")[:len(c.want)]
		if Put(part, c.v); string(part) != c.want {
			t.Errorf("%d in %d bytes is %x, want %x", c.v, len(part), part, c.want)
		}
	}
}

func TestPutStaysInItsPart(t *testing.T) {
	run := []byte("abcdef")
	if Put(run[2:4], math.MaxUint64); string(run) != "ab\xff\xffef" {
		t.Errorf("the run is %q", run)
	}
}

func TestOf(t *testing.T) {
	for want, part := range map[uint64]string{
		0: "", 200: "\xc8", 258: "\x01\x02", 0x01000000: "\x01\x00\x00\x00", math.MaxUint64: "\xff\xff\xff\xff\xff\xff\xff\xff",
	} {
		if got := Of([]byte(part)); got != want {
			t.Errorf("the number of %x is %d, want %d", part, got, want)
		}
	}
}
