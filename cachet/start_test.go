package cachet_test

import (
	"fmt"
	"strings"
	"testing"

	"cachet/api"
	"cachet/cachet"
)

// storeWith tells a store with these cells.
func storeWith(t *testing.T, cells ...string) *cachet.Store {
	t.Helper()
	s := newStore(t)
	for i, text := range cells {
		wantErrno(t, "P9: Write", s.Write(i, text), api.OK)
	}
	return s
}

// wantNoTable asks for ErrStore, of which the store stays as it was.
func wantNoTable(t *testing.T, what string, s *cachet.Store) {
	t.Helper()
	before := cellsOf(t, s)
	if x, e := cachet.Start(s); x != nil || e != api.ErrStore {
		t.Errorf("P11: Start of %s = %v, %d, want nothing and ErrStore", what, x, e)
	}
	wantCells(t, "P11: behind Start", s, before)
}

func TestP1P11Nil(t *testing.T) {
	if x, e := cachet.Start(nil); x != nil || e != api.ErrArg {
		t.Errorf("P1, P11: Start(nil) = %v, %d, want nothing and ErrArg", x, e)
	}
}

// TestP11Bytes puts each byte at each place of a cell, of all algs, retired or not.
func TestP11Bytes(t *testing.T) {
	c := api.Config{Seals: 300, Ahead: 100, Most: 200}
	for _, key := range []string{key16, key24, key32} {
		for _, retired := range []bool{false, true} {
			text := cellText(258, key, "fixd", c, 299, retired)
			for at := range text {
				for b := range 256 {
					turned := text[:at] + string([]byte{byte(b)}) + text[at+1:]
					of := fmt.Sprintf("a cell with byte %d at place %d (retired: %v)", b, at, retired)
					if !rightByte(at, b, len(key)/8-1, retired) {
						wantNoTable(t, of, storeWith(t, turned))
						continue
					}
					x := started(t, storeWith(t, turned))
					id, reserved, alg := int(turned[2])<<8|int(turned[3]), int(turned[12])<<8|int(turned[13]), int(turned[1])
					wantStatus(t, "P11: Start of "+of, x, id, api.Status{Alg: alg, Counter: reserved, Reserved: reserved, Retired: retired})
				}
			}
		}
	}
}

// rightByte tells whether the cell of TestP11Bytes may have that byte at that place.
func rightByte(at, b, alg int, retired bool) bool {
	switch at {
	case 0:
		return b == 'k'
	case 1:
		return b == alg || retired && b >= 1 && b <= 3
	case 8:
		return b<<8|300%256 >= 299
	case 9:
		return 300/256<<8|b >= 299
	case 10:
		return b >= 1 && b <= 100
	case 11:
		return b <= 200
	case 12:
		return b<<8|299%256 <= 300
	case 13:
		return 299/256<<8|b <= 300
	case 14:
		return b == 1 && !retired || b == 2 && retired
	}
	return true
}

// TestP11Lengths cuts cells off at each place, and puts more behind them.
func TestP11Lengths(t *testing.T) {
	for _, key := range []string{key16, key24, key32} {
		for _, retired := range []bool{false, true} {
			text := cellText(258, key, "fixd", limit, 3, retired)
			for end := 1; end < len(text); end++ {
				wantNoTable(t, fmt.Sprintf("the first %d bytes of a cell of %d", end, len(text)), storeWith(t, text[:end]))
			}
			for end := len(text) + 1; end <= 64; end++ {
				wantNoTable(t, fmt.Sprintf("a cell of %d bytes, and others behind it", len(text)), storeWith(t, text+strings.Repeat("k", end-len(text))))
			}
		}
	}
	for _, text := range []string{"\x00", "k", "x", strings.Repeat("\x00", 15), strings.Repeat("k", 64), "K" + sampleCell(0, false)[1:], " " + sampleCell(0, true)} {
		wantNoTable(t, fmt.Sprintf("a cell %q", text), storeWith(t, text))
	}
}

// TestP11Reserved: a Reserved of Seals is right, one more is not, whether the handle is retired or not.
func TestP11Reserved(t *testing.T) {
	for _, seals := range []int{1, 255, 256, 65534, 65535} {
		for _, retired := range []bool{false, true} {
			c := api.Config{Seals: seals, Ahead: 1, Most: 0}
			x := started(t, storeWith(t, cellText(1, key16, "fixd", c, seals, retired)))
			wantStatus(t, "P11: Start", x, 1, api.Status{Alg: 1, Counter: seals, Reserved: seals, Retired: retired})
			if seals < 65535 {
				wantNoTable(t, "a cell with too many reserved", storeWith(t, cellText(1, key16, "fixd", c, seals+1, retired)))
				wantNoTable(t, "a cell with too many reserved", storeWith(t, cellText(1, key16, "fixd", c, 65535, retired)))
			}
		}
	}
	wantNoTable(t, "a cell with 0 seals", storeWith(t, cellText(1, key16, "fixd", api.Config{Ahead: 1}, 0, false)))
}

// TestP11AnyCell: one wrong cell suffices, wherever it lies; a handle is known wherever it lies.
func TestP11AnyCell(t *testing.T) {
	for i := range api.Cells {
		s := newStore(t)
		wantErrno(t, "P9: Write", s.Write(i, sampleCell(2, false)), api.OK)
		x := started(t, s)
		wantStatus(t, "P11: Start", x, 258, api.Status{Alg: 1, Counter: 2, Reserved: 2})
		_, e := x.Seal(258, "", "")
		wantErrno(t, "P13: Seal", e, api.OK)
		wantCell(t, "P13: behind Seal", s, i, sampleCell(4, false))
		wantErrno(t, "P15: Retire", x.Retire(258), api.OK)
		wantCell(t, "P15: behind Retire", s, i, sampleCell(4, true))
		wantErrno(t, "P9: Write", s.Write(i, sampleCell(6, false)), api.OK)
		wantNoTable(t, "one wrong cell", s)
	}
}

// TestP11OneId: two cells of one Id, retired or not, in whichever cells.
func TestP11OneId(t *testing.T) {
	for i := range api.Cells {
		for j := range i {
			for _, retired := range [][2]bool{{false, false}, {false, true}, {true, false}, {true, true}} {
				for _, id := range []int{0, 258, 65535} {
					s := newStore(t)
					s.Write(i, cellText(id, key16, "fixd", limit, 0, retired[0]))
					s.Write(j, cellText(id, key32, "four", limit, 5, retired[1]))
					wantNoTable(t, "two cells of one Id", s)
					s.Write(i, cellText(id^1, key16, "fixd", limit, 0, retired[0]))
					x := started(t, s)
					wantStatus(t, "P11: Start", x, id^1, api.Status{Alg: 1, Retired: retired[0]})
					wantStatus(t, "P11: Start", x, id, api.Status{Alg: 3, Counter: 5, Reserved: 5, Retired: retired[1]})
				}
			}
		}
	}
}

// wantOver asks for ErrOver whatever a table's calls are given, and for a Status as it was.
func wantOver(t *testing.T, when string, s *cachet.Store, x *cachet.Table) {
	t.Helper()
	before := picture(t, s, x)
	long := strings.Repeat("x", 300)
	record := recordOf(t, 258, key16, "any nonce 12", "", "plain")
	for _, id := range []int{-1, 0, 1, 2, 9, 258, 65536} {
		for _, c := range []api.Config{limit, {}} {
			wantErrno(t, when+": Create", x.Create(id, key16, "fixd", c), api.ErrOver)
			wantErrno(t, when+": Create", x.Create(id, "", "fixd", c), api.ErrOver)
			wantErrno(t, when+": Create", x.Create(id, key16, "", c), api.ErrOver)
		}
		for _, text := range []string{"", long} {
			got, e := x.Seal(id, text, text)
			wantError(t, when+": Seal", got, e, api.ErrOver)
		}
		wantErrno(t, when+": Retire", x.Retire(id), api.ErrOver)
	}
	for _, text := range []string{"", long, record} {
		for _, more := range []string{"", long} {
			got, e := x.Open(text, more)
			wantError(t, when+": Open", got, e, api.ErrOver)
		}
	}
	wantPicture(t, when, s, x, before)
}

// TestP11OverByStart: all earlier tables are over, for good, even if the new Start is refused; those of other stores are not.
func TestP11OverByStart(t *testing.T) {
	s, first := newTable(t)
	first.Seal(258, "", "")
	apart, other := newTable(t)
	cachet.Start(nil)
	_, e := first.Seal(258, "", "")
	wantErrno(t, "P13: Seal behind Start(nil)", e, api.OK)
	first.Seal(258, "", "")
	second := started(t, s)
	wantOver(t, "P11: behind another Start", s, first)
	wantStatus(t, "P16: as it was", first, 258, api.Status{Alg: 1, Counter: 3, Reserved: 4})
	wantErrno(t, "P15: Retire", second.Retire(258), api.OK)
	wantErrno(t, "P12: Create", second.Create(1, key16, "fixd", limit), api.OK)
	wantStatus(t, "P16: as it was", first, 258, api.Status{Alg: 1, Counter: 3, Reserved: 4})
	wantNoStatus(t, "P16: as it was", first, 1)
	wantErrno(t, "P9: Write", s.Write(5, "no handle's cell"), api.OK)
	wantErrno(t, "P12: Create behind a Write", second.Create(2, key16, "fixd", limit), api.OK)
	wantNoTable(t, "a wrong cell", s)
	wantOver(t, "P11: behind a Start that was refused", s, second)
	wantStatus(t, "P16: as it was", second, 258, api.Status{Alg: 1, Counter: 4, Reserved: 4, Retired: true})
	wantErrno(t, "P9: Write", s.Write(5, ""), api.OK)
	wantOver(t, "P11: behind a Start that was refused", s, second)
	third := started(t, s)
	wantErrno(t, "P12: Create", third.Create(3, key16, "fixd", limit), api.OK)
	wantOver(t, "P11: behind two more Starts", s, first)
	wantOver(t, "P11: behind two more Starts", s, second)
	wantErrno(t, "P12: Create in another store", other.Create(1, key16, "fixd", limit), api.OK)
	wantCells(t, "P2: another store", apart, [api.Cells]string{sampleCell(0, false), cellText(1, key16, "fixd", limit, 0, false)})
}

// TestP12P13P15Interrupted: a write that is interrupted ends the table; the store has the new text only if it was done all the same.
func TestP12P13P15Interrupted(t *testing.T) {
	for _, done := range []bool{false, true} {
		for name, c := range map[string]struct {
			call func(x *cachet.Table) api.Errno
			cell int
			text string // what is written
		}{
			"P12: Create": {func(x *cachet.Table) api.Errno { return x.Create(1, key24, "four", limit) }, 1, cellText(1, key24, "four", limit, 0, false)},
			"P13: Seal": {func(x *cachet.Table) api.Errno {
				got, e := x.Seal(258, "", "plain")
				wantError(t, "P13: Seal, interrupted", got, e, api.ErrDown)
				return e
			}, 0, sampleCell(4, false)},
			"P15: Retire": {func(x *cachet.Table) api.Errno { return x.Retire(258) }, 0, sampleCell(2, true)},
		} {
			s, x := newTable(t)
			x.Seal(258, "", "")
			x.Seal(258, "", "")
			want := cellsOf(t, s)
			if done {
				want[c.cell] = c.text
			}
			wantErrno(t, "P9: Interrupt", s.Interrupt(1, done), api.OK)
			wantErrno(t, name+", interrupted", c.call(x), api.ErrDown)
			wantCells(t, name+", interrupted", s, want)
			wantStatus(t, name+", interrupted: as it was", x, 258, api.Status{Alg: 1, Counter: 2, Reserved: 2})
			wantNoStatus(t, name+", interrupted: as it was", x, 1)
			wantOver(t, name+", interrupted", s, x)
			wantErrno(t, "P9: Write behind that", s.Write(7, ""), api.OK)
			wantOver(t, name+", interrupted", s, x)
		}
	}
}

// TestP13GoesOn is the document's: which nonce comes behind a Seal that was interrupted.
func TestP13GoesOn(t *testing.T) {
	for _, c := range []struct {
		done bool
		next []int
	}{{false, []int{0, 1, 2, 3, 4}}, {true, []int{2, 3, 4}}} {
		s, x := newTable(t)
		wantErrno(t, "P9: Interrupt", s.Interrupt(1, c.done), api.OK)
		got, e := x.Seal(258, "", "")
		wantError(t, "P13: Seal, interrupted", got, e, api.ErrDown)
		x = started(t, s)
		for _, counter := range c.next {
			got, e := x.Seal(258, "", "")
			wantText(t, "P13: Seal behind that", got, e, recordOf(t, 258, key16, issued("fixd", counter), "", ""))
		}
		got, e = x.Seal(258, "", "")
		wantError(t, "P13: Seal behind the last one", got, e, api.ErrSpent)
	}
}

// TestP9TableWritesCount: a table's writes are counted like all others; calls that write nothing are not.
func TestP9TableWritesCount(t *testing.T) {
	s, x := newTable(t)
	wantErrno(t, "P9: Interrupt", s.Interrupt(5, false), api.OK)
	record, e := x.Seal(258, "", "") // the first
	wantErrno(t, "P13: Seal", e, api.OK)
	_, e = x.Seal(258, "", "") // reserved already
	wantErrno(t, "P13: Seal", e, api.OK)
	wantErrno(t, "P12: Create", x.Create(1, key16, "fixd", limit), api.OK) // the second
	wantErrno(t, "P12: Create", x.Create(1, key16, "fixd", limit), api.ErrThere)
	_, e = x.Open(record, "")
	wantErrno(t, "P14: Open", e, api.OK)
	x = started(t, s)
	wantErrno(t, "P15: Retire", x.Retire(1), api.OK) // the third
	wantErrno(t, "P15: Retire", x.Retire(1), api.ErrRetired)
	wantErrno(t, "P9: Write", s.Write(7, ""), api.OK) // the fourth
	_, e = x.Seal(258, "", "")
	wantErrno(t, "P13: Seal, interrupted", e, api.ErrDown)
}

// TestP11WriteOfOthers: a write of someone else's that is interrupted does not end the table.
func TestP11WriteOfOthers(t *testing.T) {
	s, x := newTable(t)
	wantErrno(t, "P9: Interrupt", s.Interrupt(1, true), api.OK)
	wantErrno(t, "P9: Write, interrupted", s.Write(3, "else"), api.ErrDown)
	_, e := x.Seal(258, "", "")
	wantErrno(t, "P13: Seal", e, api.OK)
	wantErrno(t, "P15: Retire", x.Retire(258), api.OK)
}
