package cells

import (
	"strings"
	"testing"

	"cachet/api"
)

var key16 = strings.Repeat("k", 16)

func sample(t *testing.T) Cell {
	t.Helper()
	c, e := New(258, key16, "fixd", api.Config{Seals: 5, Ahead: 2, Most: 10})
	if e != api.OK {
		t.Fatalf("New = %d", e)
	}
	return c
}

func TestStates(t *testing.T) {
	if Empty != 0 || Live != 1 || Retired != 2 {
		t.Errorf("the states are %d, %d, %d, want 0, 1, 2", Empty, Live, Retired)
	}
}

// TestP10Text: both ways between a cell and its text, at the ends of each number.
func TestP10Text(t *testing.T) {
	c := sample(t)
	wide, e := New(65535, strings.Repeat("w", 32), "\x00\xff\x00\xff", api.Config{Seals: 65535, Ahead: 100, Most: 200})
	if e != api.OK {
		t.Fatalf("New = %d", e)
	}
	narrow, e := New(0, strings.Repeat("n", 24), "\x00\x00\x00\x00", api.Config{Seals: 1, Ahead: 1, Most: 0})
	if e != api.OK {
		t.Fatalf("New = %d", e)
	}
	for _, x := range []struct {
		c    Cell
		want string
	}{
		{Cell{}, ""},
		{c, "k\x01\x01\x02fixd\x00\x05\x02\x0a\x00\x00\x01" + key16},
		{c.Reserving(), "k\x01\x01\x02fixd\x00\x05\x02\x0a\x00\x02\x01" + key16},
		{c.Reserving().Retiring(), "k\x01\x01\x02fixd\x00\x05\x02\x0a\x00\x02\x02"},
		{wide, "k\x03\xff\xff\x00\xff\x00\xff\xff\xff\x64\xc8\x00\x00\x01" + strings.Repeat("w", 32)},
		{wide.Retiring(), "k\x03\xff\xff\x00\xff\x00\xff\xff\xff\x64\xc8\x00\x00\x02"},
		{narrow, "k\x02\x00\x00\x00\x00\x00\x00\x00\x01\x01\x00\x00\x00\x01" + strings.Repeat("n", 24)},
		{narrow.Reserving(), "k\x02\x00\x00\x00\x00\x00\x00\x00\x01\x01\x00\x00\x01\x01" + strings.Repeat("n", 24)},
	} {
		if got := x.c.Text(); got != x.want {
			t.Errorf("P10: the text of %#v is %q, want %q", x.c, got, x.want)
		}
		if got, ok := Of(x.want); got != x.c || !ok {
			t.Errorf("P10: the cell of %q is %#v, %v, want %#v", x.want, got, ok, x.c)
		}
	}
}

// TestLongestText: no cell of a handle is too long for a store.
func TestLongestText(t *testing.T) {
	if keyAt+32 > api.MaxCell {
		t.Errorf("the longest text has %d bytes", keyAt+32)
	}
}

func TestReserving(t *testing.T) {
	c := sample(t)
	for _, want := range []int{2, 4, 5, 5} {
		c = c.Reserving()
		if c.Reserved != want {
			t.Errorf("Reserved = %d, want %d", c.Reserved, want)
		}
	}
	c.Seals, c.Ahead, c.Reserved = 65535, 100, 65435
	if got := c.Reserving().Reserved; got != 65535 {
		t.Errorf("Reserved = %d, want 65535", got)
	}
}

// TestValues: a cell that is told of another one leaves that one as it was.
func TestValues(t *testing.T) {
	c := sample(t)
	before := c
	if c.Reserving() == c || c.Retiring() == c {
		t.Error("nothing is reserved, or nothing retired")
	}
	if c != before {
		t.Errorf("the cell was changed: %#v", c)
	}
	if got := c.Retiring(); got.Key != "" || got.State != Retired {
		t.Errorf("a retired cell = %#v", got)
	}
}
