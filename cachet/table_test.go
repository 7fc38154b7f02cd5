package cachet_test

import (
	"fmt"
	"math"
	"math/rand"
	"strconv"
	"strings"
	"testing"

	"cachet/api"
	"cachet/cachet"
)

var (
	key16 = strings.Repeat("k", 16)
	key24 = strings.Repeat("l", 24)
	key32 = strings.Repeat("m", 32)
	limit = api.Config{Seals: 5, Ahead: 2, Most: 10}
)

// cellText writes a cell down as the document's line does, part by part.
func cellText(id int, key, fixed string, c api.Config, reserved int, retired bool) string {
	alg := map[int]byte{16: 1, 24: 2, 32: 3}[len(key)]
	state := byte(1)
	if retired {
		state, key = 2, ""
	}
	two := func(n int) string { return string([]byte{byte(n / 256), byte(n % 256)}) }
	return "k" + string([]byte{alg}) + two(id) + fixed + two(c.Seals) + string([]byte{byte(c.Ahead), byte(c.Most)}) + two(reserved) + string([]byte{state}) + key
}

// sampleCell is the document's handle.
func sampleCell(reserved int, retired bool) string {
	return cellText(258, key16, "fixd", limit, reserved, retired)
}

func started(t *testing.T, s *cachet.Store) *cachet.Table {
	t.Helper()
	x, e := cachet.Start(s)
	if x == nil || e != api.OK {
		t.Fatalf("P11: Start = %v, %d", x, e)
	}
	return x
}

// newTable tells a table with the document's handle, and its store.
func newTable(t *testing.T) (*cachet.Store, *cachet.Table) {
	t.Helper()
	s := newStore(t)
	x := started(t, s)
	wantErrno(t, "P12: Create", x.Create(258, key16, "fixd", limit), api.OK)
	return s, x
}

func wantCell(t *testing.T, when string, s *cachet.Store, i int, want string) {
	t.Helper()
	if got, e := s.Cell(i); got != want || e != api.OK {
		t.Errorf("%s: Cell(%d) = %x, %d, want %x", when, i, got, e, want)
	}
}

func wantStatus(t *testing.T, when string, x *cachet.Table, id int, want api.Status) {
	t.Helper()
	if got, e := x.Status(id); got != want || e != api.OK {
		t.Errorf("%s: Status(%d) = %+v, %d, want %+v", when, id, got, e, want)
	}
}

func wantNoStatus(t *testing.T, when string, x *cachet.Table, id int) {
	t.Helper()
	if got, e := x.Status(id); got != (api.Status{}) || e != api.ErrNone {
		t.Errorf("%s: Status(%d) = %+v, %d, want nothing and ErrNone", when, id, got, e)
	}
}

// issued is the nonce that a handle issues.
func issued(fixed string, counter int) string {
	return fixed + "\x00\x00\x00\x00\x00\x00" + string([]byte{byte(counter / 256), byte(counter % 256)})
}

// recordOf is a handle's record, with the library's body and tag.
func recordOf(t *testing.T, id int, key, nonce, more, plain string) string {
	t.Helper()
	alg := map[int]int{16: 1, 24: 2, 32: 3}[len(key)]
	head := bytesOf(api.Record{Alg: alg, Id: id, Nonce: nonce, Body: plain})[:20]
	return head + librarySeal(t, key, nonce, head+more, plain)
}

// picture tells all that can be seen of a store and a table.
func picture(t *testing.T, s *cachet.Store, x *cachet.Table) string {
	t.Helper()
	told := fmt.Sprintf("%q", cellsOf(t, s))
	for _, id := range []int{math.MinInt, -1, 0, 1, 2, 3, 4, 5, 6, 7, 8, 9, 257, 258, 259, 65535, 65536, math.MaxInt} {
		status, e := x.Status(id)
		told += fmt.Sprintf(" %d:%v,%d", id, status, e)
	}
	return told
}

func wantPicture(t *testing.T, when string, s *cachet.Store, x *cachet.Table, want string) {
	t.Helper()
	if got := picture(t, s, x); got != want {
		t.Errorf("%s: there is\n%s, want\n%s", when, got, want)
	}
}

// TestP10P13Example is the document's: the cell and the nonce behind each step.
func TestP10P13Example(t *testing.T) {
	s, x := newTable(t)
	wantCell(t, "P10: behind Create", s, 0, "k"+unhex(t, "01 0102")+"fixd"+unhex(t, "0005 02 0a 0000 01")+key16)
	for counter, reserved := range []int{2, 2, 4} {
		got, e := x.Seal(258, "more", "plain")
		wantText(t, "P13: Seal", got, e, recordOf(t, 258, key16, issued("fixd", counter), "more", "plain"))
		wantCell(t, "P13: behind Seal", s, 0, sampleCell(reserved, false))
		wantStatus(t, "P16: behind Seal", x, 258, api.Status{Alg: 1, Counter: counter + 1, Reserved: reserved})
	}
	x = started(t, s)
	wantStatus(t, "P11: started anew", x, 258, api.Status{Alg: 1, Counter: 4, Reserved: 4})
	got, e := x.Seal(258, "", "last")
	wantText(t, "P13: the last Seal", got, e, recordOf(t, 258, key16, issued("fixd", 4), "", "last"))
	wantCell(t, "P13: behind the last Seal", s, 0, sampleCell(5, false))
	before := picture(t, s, x)
	got, e = x.Seal(258, "", "")
	wantError(t, "P13: Seal behind the last one", got, e, api.ErrSpent)
	wantPicture(t, "P13: behind ErrSpent", s, x, before)
}

func TestP15Example(t *testing.T) {
	s, x := newTable(t)
	record, e := x.Seal(258, "", "plain")
	wantErrno(t, "P13: Seal", e, api.OK)
	wantErrno(t, "P15: Retire", x.Retire(258), api.OK)
	for range 3 {
		wantCell(t, "P15: behind Retire", s, 0, sampleCell(2, true))
		wantCell(t, "P15: behind Retire", s, 0, "k"+unhex(t, "01 0102")+"fixd"+unhex(t, "0005 02 0a 0002 02"))
		got, e := x.Seal(258, "", "")
		wantError(t, "P13: Seal of a retired handle", got, e, api.ErrRetired)
		got, e = x.Open(record, "")
		wantError(t, "P14: Open by a retired handle", got, e, api.ErrRetired)
		wantErrno(t, "P12: Create of a retired name", x.Create(258, key16, "fixd", limit), api.ErrThere)
		wantErrno(t, "P15: Retire once more", x.Retire(258), api.ErrRetired)
		x = started(t, s)
		wantStatus(t, "P16: a retired handle", x, 258, api.Status{Alg: 1, Counter: 2, Reserved: 2, Retired: true})
	}
}

// TestP15Counter: a handle that is retired has the counter that it had, till the table is started anew.
func TestP15Counter(t *testing.T) {
	s, x := newTable(t)
	x.Seal(258, "", "")
	wantErrno(t, "P15: Retire", x.Retire(258), api.OK)
	wantStatus(t, "P16: behind Retire", x, 258, api.Status{Alg: 1, Counter: 1, Reserved: 2, Retired: true})
	wantStatus(t, "P16: started anew", started(t, s), 258, api.Status{Alg: 1, Counter: 2, Reserved: 2, Retired: true})
}

// TestP15Spent: a handle that has sealed all that it may, or nothing, can be retired.
func TestP15Spent(t *testing.T) {
	s, x := newTable(t)
	for range 5 {
		x.Seal(258, "", "")
	}
	wantErrno(t, "P12: Create", x.Create(0, key32, "none", limit), api.OK)
	wantErrno(t, "P15: Retire of a spent handle", x.Retire(258), api.OK)
	wantErrno(t, "P15: Retire of a new handle", x.Retire(0), api.OK)
	wantCells(t, "P15: behind Retire", s, [api.Cells]string{sampleCell(5, true), cellText(0, key32, "none", limit, 0, true)})
	got, e := x.Seal(258, strings.Repeat("x", 181), strings.Repeat("x", 11))
	wantError(t, "P13: Seal of a handle that is retired and spent, of too long texts", got, e, api.ErrRetired)
}

// TestP10P12Ends: the ends of ids and of each number of a Config, for all keys, give cells that are started anew.
func TestP10P12Ends(t *testing.T) {
	for _, key := range []string{key16, key24, key32} {
		for _, id := range []int{0, 1, 255, 256, 65534, 65535} {
			for _, seals := range []int{1, 2, 255, 256, 65534, 65535} {
				for _, ahead := range []int{1, 2, 99, 100} {
					for _, most := range []int{0, 1, 199, 200} {
						c, s := api.Config{Seals: seals, Ahead: ahead, Most: most}, newStore(t)
						x := started(t, s)
						wantErrno(t, fmt.Sprintf("P12: Create(%d, %d bytes, %v)", id, len(key), c), x.Create(id, key, "\x00\xff01", c), api.OK)
						wantCells(t, "P10: behind Create", s, [api.Cells]string{cellText(id, key, "\x00\xff01", c, 0, false)})
						want := api.Status{Alg: len(key)/8 - 1}
						wantStatus(t, "P16: behind Create", x, id, want)
						x = started(t, s)
						wantStatus(t, "P11: started anew", x, id, want)
						wantErrno(t, "P15: Retire", x.Retire(id), api.OK)
						wantCells(t, "P10: behind Retire", s, [api.Cells]string{cellText(id, key, "\x00\xff01", c, 0, true)})
						want.Retired = true
						wantStatus(t, "P11: started anew", started(t, s), id, want)
					}
				}
			}
		}
	}
}

// wrongConfigs are one beyond an end in one number each, some far beyond.
func wrongConfigs() []api.Config {
	var wrong []api.Config
	for _, n := range []int{math.MinInt, -1, 0, 65536, 65537, 1 << 32, math.MaxInt} {
		wrong = append(wrong, api.Config{Seals: n, Ahead: 1, Most: 1})
	}
	for _, n := range []int{math.MinInt, -1, 0, 101, 255, 256, 257, math.MaxInt} {
		wrong = append(wrong, api.Config{Seals: 1, Ahead: n, Most: 1})
	}
	for _, n := range []int{math.MinInt, -1, 201, 255, 256, 257, math.MaxInt} {
		wrong = append(wrong, api.Config{Seals: 1, Ahead: 1, Most: n})
	}
	return wrong
}

// TestP12Errors goes through wrong arguments together, in a table that has a handle, one that is full and one that is over, so that the error named first is seen to be the answer.
func TestP12Errors(t *testing.T) {
	configs := append(wrongConfigs(), limit)
	for _, full := range []bool{false, true} {
		s, x := newTable(t)
		for id := 1; full && id < 8; id++ {
			wantErrno(t, "P12: Create", x.Create(id, key16, "fixd", limit), api.OK)
		}
		wantErrno(t, "P9: Interrupt", s.Interrupt(1, true), api.OK)
		before := picture(t, s, x)
		for _, id := range []int{math.MinInt, -1, 0, 258, 65535, 65536, 65794, math.MaxInt} {
			for _, fixed := range []string{"", "fix", "fixd", "fixed", "fïxd"} {
				for at, c := range configs {
					for _, n := range []int{0, 15, 16, 17, 23, 25, 31, 32, 33, 64} {
						want := api.OK
						switch {
						case id < 0 || id > 65535 || fixed != "fixd" || at < len(configs)-1:
							want = api.ErrArg
						case n != 16 && n != 32:
							want = api.ErrKey
						case id == 258:
							want = api.ErrThere
						case full:
							want = api.ErrFull
						}
						if want != api.OK {
							e := x.Create(id, strings.Repeat("k", n), fixed, c)
							wantErrno(t, fmt.Sprintf("P12: Create(%d, %d bytes, %q, %v)", id, n, fixed, c), e, want)
						}
					}
				}
			}
		}
		wantPicture(t, "P12: behind what was refused", s, x, before)
		if !full {
			wantErrno(t, "P12: the first Create that writes", x.Create(9, key16, "fixd", limit), api.ErrDown)
		}
	}
}

func TestP12EightAndANinth(t *testing.T) {
	s := newStore(t)
	x := started(t, s)
	var want [api.Cells]string
	for i := range want {
		id := 1000 - i
		want[i] = cellText(id, key24, "four", limit, 0, false)
		wantErrno(t, "P12: Create", x.Create(id, key24, "four", limit), api.OK)
		wantCells(t, "P12: behind Create", s, want)
	}
	wantErrno(t, "P12: Create of a ninth", x.Create(1, key24, "four", limit), api.ErrFull)
	wantErrno(t, "P12: Create of one that is there", x.Create(993, key24, "four", limit), api.ErrThere)
	wantErrno(t, "P15: Retire", x.Retire(997), api.OK)
	want[3] = cellText(997, key24, "four", limit, 0, true)
	wantErrno(t, "P12: Create behind Retire", x.Create(1, key24, "four", limit), api.ErrFull)
	wantCells(t, "P12: behind ErrFull", s, want)
	x = started(t, s)
	wantErrno(t, "P12: Create when started anew", x.Create(1, key24, "four", limit), api.ErrFull)
	for i := range want {
		wantStatus(t, "P11: started anew", x, 1000-i, api.Status{Alg: 2, Retired: i == 3})
	}
	wantNoStatus(t, "P12: behind ErrFull", x, 1)
}

// TestP12FreeCells: whatever was written into a cell behind Start, it is free if it was empty then, and not if a handle lay there.
func TestP12FreeCells(t *testing.T) {
	s := newStore(t)
	wantErrno(t, "P9: Write", s.Write(1, cellText(7, key16, "fixd", limit, 3, false)), api.OK)
	wantErrno(t, "P9: Write", s.Write(2, cellText(8, key16, "fixd", limit, 3, true)), api.OK)
	x := started(t, s)
	s.Write(0, "something else")
	s.Write(1, "")
	s.Write(2, "")
	s.Write(3, cellText(9, key16, "fixd", limit, 0, false))
	wantErrno(t, "P12: Create", x.Create(9, key16, "fixd", limit), api.OK)
	wantCell(t, "P12: over something else", s, 0, cellText(9, key16, "fixd", limit, 0, false))
	wantErrno(t, "P12: Create", x.Create(10, key32, "fixd", limit), api.OK)
	wantCell(t, "P12: over a handle of no table", s, 3, cellText(10, key32, "fixd", limit, 0, false))
	wantErrno(t, "P12: Create of one that is there", x.Create(7, key16, "fixd", limit), api.ErrThere)
	wantErrno(t, "P12: Create of one that is retired", x.Create(8, key16, "fixd", limit), api.ErrThere)
	got, e := x.Seal(7, "", "")
	wantText(t, "P13: Seal of a handle whose cell was written over", got, e, recordOf(t, 7, key16, issued("fixd", 3), "", ""))
	wantCell(t, "P13: behind Seal", s, 1, cellText(7, key16, "fixd", limit, 5, false))
	wantCell(t, "P15: the cell of a retired handle", s, 2, "")
}

// TestP13Texts: all edges of more and of the plain text, for all keys, against the library.
func TestP13Texts(t *testing.T) {
	r := rand.New(rand.NewSource(13))
	for _, key := range []string{key16, key24, key32} {
		for _, most := range []int{0, 1, 16, 199, 200} {
			x := started(t, newStore(t))
			wantErrno(t, "P12: Create", x.Create(65535, key, "\xff\x00\xfe\x01", api.Config{Seals: 1000, Ahead: 3, Most: most}), api.OK)
			counter := 0
			for _, m := range []int{0, 1, 12, 179, 180, 181, 200, 201, 100000} {
				for _, p := range []int{0, 1, 15, 16, 17, 199, 200, 201, 100000} {
					more, plain := someText(r, m), someText(r, p)
					of := fmt.Sprintf("P13: Seal of more of %d bytes and a text of %d, of %d at most", m, p, most)
					got, e := x.Seal(65535, more, plain)
					if m > 180 || p > most {
						wantError(t, of, got, e, api.ErrLong)
						continue
					}
					wantText(t, of, got, e, recordOf(t, 65535, key, issued("\xff\x00\xfe\x01", counter), more, plain))
					counter++
					back, e := x.Open(got, more)
					wantText(t, "P14: Open", back, e, plain)
				}
			}
		}
	}
}

// TestP13Reserves: which seals write, for all small numbers, and nobody else's cell is touched.
func TestP13Reserves(t *testing.T) {
	for seals := 1; seals <= 9; seals++ {
		for ahead := 1; ahead <= 10; ahead++ {
			s, x := newTable(t)
			c := api.Config{Seals: seals, Ahead: ahead, Most: 4}
			wantErrno(t, "P12: Create", x.Create(1, key16, "four", c), api.OK)
			for counter := range seals {
				s.Interrupt(1, false)
				reserved := min(seals, (counter/ahead+1)*ahead)
				if counter%ahead == 0 {
					s.Interrupt(0, false)
				}
				got, e := x.Seal(1, "", "text")
				wantText(t, "P13: Seal", got, e, recordOf(t, 1, key16, issued("four", counter), "", "text"))
				wantCells(t, "P13: behind Seal", s, [api.Cells]string{sampleCell(0, false), cellText(1, key16, "four", c, reserved, false)})
				wantStatus(t, "P16: behind Seal", x, 1, api.Status{Alg: 1, Counter: counter + 1, Reserved: reserved})
			}
			got, e := x.Seal(1, "", "text")
			wantError(t, "P13: Seal behind the last one", got, e, api.ErrSpent)
			got, e = x.Seal(1, "", "texts")
			wantError(t, "P13: Seal of a text that is too long, behind the last one", got, e, api.ErrLong)
		}
	}
}

// TestP13AllSeals: the greatest number of seals, with all their nonces.
func TestP13AllSeals(t *testing.T) {
	s := newStore(t)
	x := started(t, s)
	c := api.Config{Seals: 65535, Ahead: 100}
	wantErrno(t, "P12: Create", x.Create(1, key16, "four", c), api.OK)
	for counter := range 65535 {
		got, e := x.Seal(1, "", "")
		if e != api.OK || len(got) != 36 || got[6:18] != issued("four", counter) {
			t.Fatalf("P13: seal %d = %x, %d", counter, got, e)
		}
	}
	wantCell(t, "P13: behind all seals", s, 0, cellText(1, key16, "four", c, 65535, false))
	got, e := x.Seal(1, "", "")
	wantError(t, "P13: Seal behind the last one", got, e, api.ErrSpent)
	x = started(t, s)
	got, e = x.Seal(1, "", "")
	wantError(t, "P13: Seal behind the last one, started anew", got, e, api.ErrSpent)
}

// TestP13P15P16NoHandle: names that no handle has, those among them that no handle may have.
func TestP13P15P16NoHandle(t *testing.T) {
	s, x := newTable(t)
	before := picture(t, s, x)
	long := strings.Repeat("x", 300)
	for _, id := range []int{math.MinInt, -65278, -1, 0, 2, 257, 259, 65535, 65536, 65794, math.MaxInt} {
		for _, text := range []string{"", "text", long} {
			got, e := x.Seal(id, text, text)
			wantError(t, "P13: Seal("+strconv.Itoa(id)+")", got, e, api.ErrNone)
		}
		wantErrno(t, "P15: Retire("+strconv.Itoa(id)+")", x.Retire(id), api.ErrNone)
		wantNoStatus(t, "P16", x, id)
	}
	wantPicture(t, "P1: behind what was refused", s, x, before)
}

// TestP14Errors goes through the errors in their order: each text has all the faults that are named later.
func TestP14Errors(t *testing.T) {
	s, x := newTable(t)
	wantErrno(t, "P12: Create", x.Create(2, key16, "fixd", limit), api.OK)
	wantErrno(t, "P12: Create", x.Create(3, key16, "fixd", limit), api.OK)
	wantErrno(t, "P15: Retire", x.Retire(3), api.OK)
	before := picture(t, s, x)
	nonce, long := "any nonce 12", strings.Repeat("x", 181)
	good := recordOf(t, 258, key16, nonce, "more", "plain")
	none, retired := good[:4]+"\x00\x09"+good[6:], good[:4]+"\x00\x03"+good[6:]
	for _, c := range []struct {
		record, more string
		want         api.Errno
	}{
		{"", long, api.ErrLong},
		{good, long, api.ErrLong},
		{none, long, api.ErrLong},
		{retired, strings.Repeat("x", 100000), api.ErrLong},
		{"", "more", api.ErrForm},
		{good[:len(good)-1], "more", api.ErrForm},
		{good + "x", "more", api.ErrForm},
		{none + "x", "", api.ErrForm},
		{retired[1:], "", api.ErrForm},
		{good[:3] + "\x04" + good[4:], "more", api.ErrForm},
		{none, "more", api.ErrNone},
		{none[:3] + "\x02" + none[4:], "other", api.ErrNone},
		{retired, "more", api.ErrRetired},
		{retired[:3] + "\x02" + retired[4:], "other", api.ErrRetired},
		{recordOf(t, 3, key16, nonce, "more", "plain"), "more", api.ErrRetired},
		{good, "other", api.ErrTag},
		{good, "", api.ErrTag},
		{good, long[:180], api.ErrTag},
		{good[:4] + "\x00\x02" + good[6:], "more", api.ErrTag},
		{recordOf(t, 258, key24, nonce, "more", "plain"), "more", api.ErrTag},
		{recordOf(t, 258, key32[:16], nonce, "more", "plain"), "more", api.ErrTag},
	} {
		got, e := x.Open(c.record, c.more)
		wantError(t, fmt.Sprintf("P14: Open(%x, %d bytes)", c.record, len(c.more)), got, e, c.want)
	}
	got, e := x.Open(good, "more")
	wantText(t, "P14: Open", got, e, "plain")
	wantPicture(t, "P14: behind Open", s, x, before)
}

// TestP14AlgIsTheHandles: a record that is sealed by the handle's key, with a head that tells another Alg, is refused all the same.
func TestP14AlgIsTheHandles(t *testing.T) {
	for at, key := range []string{key16, key24, key32} {
		x := started(t, newStore(t))
		wantErrno(t, "P12: Create", x.Create(258, key, "fixd", limit), api.OK)
		for alg := 1; alg <= 3; alg++ {
			nonce := "any nonce 12"
			head := bytesOf(api.Record{Alg: alg, Id: 258, Nonce: nonce, Body: "plain"})[:20]
			got, e := x.Open(head+librarySeal(t, key, nonce, head+"more", "plain"), "more")
			if alg == at+1 {
				wantText(t, "P14: Open of the handle's Alg", got, e, "plain")
			} else {
				wantError(t, "P14: Open of another Alg", got, e, api.ErrTag)
			}
		}
	}
}

// TestP14AnyNonceAnyLength: the nonce need not have been issued, nor the text be as short as the handle's own.
func TestP14AnyNonceAnyLength(t *testing.T) {
	r := rand.New(rand.NewSource(14))
	for _, key := range []string{key16, key24, key32} {
		s := newStore(t)
		x := started(t, s)
		wantErrno(t, "P12: Create", x.Create(0, key, "fixd", api.Config{Seals: 1, Ahead: 1, Most: 0}), api.OK)
		wantErrno(t, "P9: Interrupt", s.Interrupt(1, true), api.OK)
		before := picture(t, s, x)
		for _, p := range []int{0, 1, 15, 16, 17, 199, 200} {
			for _, m := range []int{0, 1, 12, 179, 180} {
				nonce, more, plain := someText(r, 12), someText(r, m), someText(r, p)
				got, e := x.Open(recordOf(t, 0, key, nonce, more, plain), more)
				wantText(t, fmt.Sprintf("P14: Open of %d bytes, with more of %d", p, m), got, e, plain)
			}
		}
		wantPicture(t, "P14: behind Open", s, x, before)
		_, e := x.Seal(0, "", "")
		wantErrno(t, "P14: the first write behind Open", e, api.ErrDown)
	}
}

// TestP14P17Changed changes each bit of a record and of what goes with it.
func TestP14P17Changed(t *testing.T) {
	_, x := newTable(t)
	record, e := x.Seal(258, "more", "plain")
	wantErrno(t, "P13: Seal", e, api.OK)
	for bit := range 8 * len(record) {
		got, e := x.Open(changed(record, bit/8, 1<<(bit%8)), "more")
		if got != "" || e != api.ErrTag && e != api.ErrForm && e != api.ErrNone {
			t.Errorf("P17: Open with bit %d changed = %q, %d", bit, got, e)
		}
	}
	for bit := range 8 * len("more") {
		got, e := x.Open(record, changed("more", bit/8, 1<<(bit%8)))
		wantError(t, "P17: Open with more changed", got, e, api.ErrTag)
	}
	// A byte may not pass from the record to what goes with it.
	got, e := x.Open(record[:19]+"\x04"+record[21:], record[20:21]+"more")
	wantError(t, "P17: Open with a byte moved", got, e, api.ErrTag)
}
