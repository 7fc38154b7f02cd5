package cachet_test

import (
	"math"
	"strconv"
	"strings"
	"testing"

	"cachet/api"
	"cachet/cachet"
)

func newStore(t *testing.T) *cachet.Store {
	t.Helper()
	s := cachet.NewStore()
	if s == nil {
		t.Fatal("P9: NewStore() is nil")
	}
	return s
}

func wantErrno(t *testing.T, call string, e api.Errno, want api.Errno) {
	t.Helper()
	if e != want {
		t.Errorf("%s = %d, want %d", call, e, want)
	}
}

// cellsOf tells all cells of a store.
func cellsOf(t *testing.T, s *cachet.Store) [api.Cells]string {
	t.Helper()
	var cells [api.Cells]string
	for i := range cells {
		text, e := s.Cell(i)
		wantErrno(t, "P9: Cell("+strconv.Itoa(i)+")", e, api.OK)
		cells[i] = text
	}
	return cells
}

func wantCells(t *testing.T, when string, s *cachet.Store, want [api.Cells]string) {
	t.Helper()
	if got := cellsOf(t, s); got != want {
		t.Errorf("%s: the cells are %q, want %q", when, got, want)
	}
}

func TestP9Cells(t *testing.T) {
	s := newStore(t)
	var want [api.Cells]string
	wantCells(t, "P9: a new store", s, want)
	for i := range want {
		want[i] = "\x00\xff cell " + strconv.Itoa(i)
		wantErrno(t, "P9: Write", s.Write(i, want[i]), api.OK)
		wantCells(t, "P9: behind Write("+strconv.Itoa(i)+")", s, want)
	}
	for i := range want {
		want[i] = ""
		wantErrno(t, "P9: Write of nothing", s.Write(i, ""), api.OK)
		wantCells(t, "P9: behind Write of nothing", s, want)
	}
}

func TestP9Lengths(t *testing.T) {
	s := newStore(t)
	var want [api.Cells]string
	for n := range 70 {
		text := strings.Repeat("x", n)
		if n > 64 {
			wantErrno(t, "P9: Write of "+strconv.Itoa(n)+" bytes", s.Write(7, text), api.ErrLong)
		} else {
			wantErrno(t, "P9: Write of "+strconv.Itoa(n)+" bytes", s.Write(7, text), api.OK)
			want[7] = text
		}
		wantCells(t, "P9: behind Write", s, want)
	}
	wantErrno(t, "P9: Write of 33 runes in 66 bytes", s.Write(0, strings.Repeat("é", 33)), api.ErrLong)
	wantErrno(t, "P9: Write of 32 runes in 64 bytes", s.Write(0, strings.Repeat("é", 32)), api.OK)
}

// TestP9NoCell: ErrArg is named ahead of ErrLong, and ErrLong ahead of ErrDown; neither of them counts as a write.
func TestP9NoCell(t *testing.T) {
	s := newStore(t)
	wantErrno(t, "P9: Write", s.Write(0, "as it was"), api.OK)
	before := cellsOf(t, s)
	long := strings.Repeat("x", 65)
	wantErrno(t, "P9: Interrupt(1, true)", s.Interrupt(1, true), api.OK)
	for _, i := range []int{math.MinInt, -8, -1, 8, 9, 16, 1 << 32, math.MaxInt} {
		got, e := s.Cell(i)
		wantError(t, "P9: Cell("+strconv.Itoa(i)+")", got, e, api.ErrArg)
		wantErrno(t, "P9: Write("+strconv.Itoa(i)+")", s.Write(i, "text"), api.ErrArg)
		wantErrno(t, "P9: Write("+strconv.Itoa(i)+") of 65 bytes", s.Write(i, long), api.ErrArg)
	}
	for i := range api.Cells {
		wantErrno(t, "P9: Write of 65 bytes", s.Write(i, long), api.ErrLong)
	}
	wantCells(t, "P9: behind what was refused", s, before)
	wantErrno(t, "P9: the first write that counts", s.Write(7, "text"), api.ErrDown)
}

// TestP9Interrupt: just the k-th write is interrupted, whichever cells are written.
func TestP9Interrupt(t *testing.T) {
	for _, done := range []bool{false, true} {
		for k := range 20 {
			s := newStore(t)
			wantErrno(t, "P9: Write ahead of Interrupt", s.Write(3, "ahead"), api.OK)
			want := cellsOf(t, s)
			wantErrno(t, "P9: Interrupt("+strconv.Itoa(k)+")", s.Interrupt(k, done), api.OK)
			wantCells(t, "P9: behind Interrupt", s, want)
			for n := 1; n <= 25; n++ {
				i, text, e := n*3%8, "write "+strconv.Itoa(n), api.OK
				if n == k {
					e = api.ErrDown
				}
				if n != k || done {
					want[i] = text
				}
				wantErrno(t, "P9: write "+strconv.Itoa(n)+" behind Interrupt("+strconv.Itoa(k)+")", s.Write(i, text), e)
				wantCells(t, "P9: behind write "+strconv.Itoa(n), s, want)
			}
		}
	}
}

// TestP9InterruptAnew: the next Interrupt takes the place of the last, before it was reached, and behind it; one that is refused does not.
func TestP9InterruptAnew(t *testing.T) {
	type step struct {
		k     int // what Interrupt is given
		done  bool
		e     api.Errno // what it answers
		downs string    // of the writes behind it: . for OK, n for ErrDown and not done, d for ErrDown and done
	}
	for _, steps := range [][]step{
		{{1, false, api.OK, ""}, {0, false, api.OK, "..."}},
		{{1, true, api.OK, ""}, {0, true, api.OK, "..."}},
		{{3, false, api.OK, ".."}, {3, true, api.OK, "..d.."}},
		{{3, true, api.OK, ".."}, {2, false, api.OK, ".n.."}},
		{{5, true, api.OK, "."}, {1, true, api.OK, "d....."}},
		{{1, false, api.OK, "n."}, {1, true, api.OK, "d."}, {1, false, api.OK, "n.."}},
		{{2, false, api.OK, "."}, {-1, true, api.ErrArg, "n.."}},
		{{2, true, api.OK, "."}, {-1, false, api.ErrArg, ""}, {math.MinInt, false, api.ErrArg, "d.."}},
		{{math.MaxInt, true, api.OK, "....."}, {1, true, api.OK, "d."}},
		{{-1, true, api.ErrArg, "..."}},
	} {
		s := newStore(t)
		var want [api.Cells]string
		n := 0
		for _, step := range steps {
			wantErrno(t, "P9: Interrupt("+strconv.Itoa(step.k)+")", s.Interrupt(step.k, step.done), step.e)
			for _, down := range step.downs {
				n++
				text, e := "write "+strconv.Itoa(n), api.ErrDown
				if down == '.' {
					e = api.OK
				}
				if down != 'n' {
					want[n%8] = text
				}
				wantErrno(t, "P9: "+text, s.Write(n%8, text), e)
				wantCells(t, "P9: behind "+text, s, want)
			}
		}
	}
}
