package cachet_test

import (
	"math"
	"strings"
	"testing"

	"cachet/api"
	"cachet/cachet"
)

func oddNumbers() []int {
	return []int{math.MinInt, -1, 0, 1, 7, 8, 200, 65535, 65536, math.MaxInt}
}

func oddTexts() []string {
	texts := []string{"\xff\xfe", "é", strings.Repeat("\x00", 100000), strings.Repeat("\xff", 100001)}
	for _, n := range []int{0, 1, 4, 12, 15, 16, 17, 23, 24, 25, 31, 32, 33, 40, 41, 64, 65, 180, 181, 200, 201} {
		texts = append(texts, strings.Repeat("t", n))
	}
	return texts
}

// TestP1Texts: a panic ends the test; with an error there is no text beside it.
func TestP1Texts(t *testing.T) {
	for _, a := range oddTexts() {
		if r, place, e := cachet.Parse(a); r != (api.Record{}) || place < 0 || place > len(a) || e != api.ErrForm {
			t.Errorf("P1: Parse of %d bytes = %#v, %d, %d", len(a), r, place, e)
		}
		for _, b := range oddTexts() {
			answers := map[string]func() (string, api.Errno){
				"Encrypt": func() (string, api.Errno) { return cachet.Encrypt(a, b) },
				"Hash":    func() (string, api.Errno) { return cachet.Hash(a, b) },
				"Seal":    func() (string, api.Errno) { return cachet.Seal(a, b, a, b) },
				"Open":    func() (string, api.Errno) { return cachet.Open(a, b, b, a) },
				"Encode":  func() (string, api.Errno) { return cachet.Encode(api.Record{Alg: 1, Nonce: a, Body: b, Tag: a}) },
			}
			for name, call := range answers {
				if got, e := call(); e != api.OK && got != "" {
					t.Errorf("P1: %s of %d and %d bytes = %x beside %d", name, len(a), len(b), got, e)
				}
			}
		}
	}
}

func TestP1Numbers(t *testing.T) {
	for _, n := range oddNumbers() {
		if got, e := cachet.Encode(api.Record{Alg: n, Id: n}); e != api.OK && got != "" {
			t.Errorf("P1: Encode of numbers %d = %x beside %d", n, got, e)
		}
		s := newStore(t)
		if got, e := s.Cell(n); got != "" || (e == api.OK) != (n >= 0 && n < 8) {
			t.Errorf("P1: Cell(%d) = %x beside %d", n, got, e)
		}
		s.Write(n, "text")
		s.Interrupt(n, true)
		for _, seals := range oddNumbers() {
			for _, ahead := range oddNumbers() {
				for _, most := range oddNumbers() {
					table := started(t, newStore(t))
					made := table.Create(n, key16, "fixd", api.Config{Seals: seals, Ahead: ahead, Most: most})
					if got, e := table.Seal(n, "", ""); made != e && (got != "" || e != api.ErrNone) {
						t.Errorf("P1: a table's Seal(%d) = %x beside %d", n, got, e)
					}
					if got, e := table.Status(n); made != e && (got != (api.Status{}) || e != api.ErrNone) {
						t.Errorf("P1: Status(%d) = %v beside %d", n, got, e)
					}
					table.Retire(n)
				}
			}
		}
	}
}

func TestP1TableTexts(t *testing.T) {
	for _, a := range oddTexts() {
		s := newStore(t)
		s.Write(0, a)
		if table, e := cachet.Start(s); (table == nil) != (e != api.OK) {
			t.Errorf("P1: Start of a cell of %d bytes = %v beside %d", len(a), table, e)
		}
		for _, b := range oddTexts() {
			table := started(t, newStore(t))
			table.Create(1, a, b, api.Config{Seals: 1, Ahead: 1, Most: 1})
			wantErrno(t, "P12: Create", table.Create(2, key16, "fixd", api.Config{Seals: 1, Ahead: 1, Most: 200}), api.OK)
			if got, e := table.Seal(2, a, b); (got == "") != (e != api.OK) {
				t.Errorf("P1: a table's Seal of %d and %d bytes = %x beside %d", len(a), len(b), got, e)
			}
			if got, e := table.Open(a, b); got != "" || e != api.ErrForm && e != api.ErrLong {
				t.Errorf("P1: a table's Open of %d and %d bytes = %x beside %d", len(a), len(b), got, e)
			}
		}
	}
}

// TestP1NothingKept: the same question has the same answer, whatever was asked or refused between.
func TestP1NothingKept(t *testing.T) {
	key, block := strings.Repeat("k", 24), strings.Repeat("b", 16)
	encrypted, _ := cachet.Encrypt(key, block)
	hashed, _ := cachet.Hash(block, key+key)
	sealed, _ := cachet.Seal(key, "nonce", "more", "plain")
	for _, a := range oddTexts() {
		cachet.Encrypt(a, block)
		cachet.Encrypt(key, a)
		cachet.Hash(a, key)
		cachet.Hash(block, a)
		cachet.Seal(key, a, a, a)
		cachet.Open(key, a, a, a)
		cachet.Encode(api.Record{Alg: 1, Nonce: a, Body: a, Tag: a})
		cachet.Parse(a)
		got, e := cachet.Encrypt(key, block)
		wantText(t, "P1: Encrypt once more", got, e, encrypted)
		got, e = cachet.Hash(block, key+key)
		wantText(t, "P1: Hash once more", got, e, hashed)
		got, e = cachet.Seal(key, "nonce", "more", "plain")
		wantText(t, "P1: Seal once more", got, e, sealed)
		got, e = cachet.Open(key, "nonce", "more", sealed)
		wantText(t, "P1: Open once more", got, e, "plain")
	}
}

func TestP2Stores(t *testing.T) {
	one, other := newStore(t), newStore(t)
	for i := range api.Cells {
		wantErrno(t, "P9: Write", one.Write(i, "text"), api.OK)
		wantCells(t, "P2: another store", other, [api.Cells]string{})
	}
	one.Interrupt(1, false)
	wantErrno(t, "P2: a write in another store than the interrupted one", other.Write(0, "text"), api.OK)
	other.Interrupt(0, false)
	wantErrno(t, "P2: a write in the interrupted store", one.Write(0, ""), api.ErrDown)
	wantCell(t, "P2: the interrupted store", one, 0, "text")
}

// TestP2Tables: tables of two stores with handles of one name; what one of them does, or suffers, is not the other's.
func TestP2Tables(t *testing.T) {
	one, table := newTable(t)
	other := newStore(t)
	apart := started(t, other)
	wantNoStatus(t, "P2: another store's table", apart, 258)
	c := api.Config{Seals: 9, Ahead: 3, Most: 10}
	wantErrno(t, "P2: Create of a name that another store's table has", apart.Create(258, key32, "four", c), api.OK)
	for counter := range 2 {
		got, e := table.Seal(258, "", "plain")
		wantText(t, "P2: Seal", got, e, recordOf(t, 258, key16, issued("fixd", counter), "", "plain"))
		got, e = apart.Open(got, "")
		wantError(t, "P2: Open of another store's record", got, e, api.ErrTag)
		got, e = apart.Seal(258, "", "plain")
		wantText(t, "P2: Seal", got, e, recordOf(t, 258, key32, issued("four", counter), "", "plain"))
	}
	wantErrno(t, "P2: Retire", table.Retire(258), api.OK)
	wantStatus(t, "P2: another store's handle", apart, 258, api.Status{Alg: 3, Counter: 2, Reserved: 3})
	one.Interrupt(1, true)
	wantErrno(t, "P2: Create, interrupted", table.Create(1, key16, "fixd", limit), api.ErrDown)
	wantErrno(t, "P2: Create beside that", apart.Create(1, key16, "fixd", limit), api.OK)
	wantCells(t, "P2: one store", one, [api.Cells]string{sampleCell(2, true), cellText(1, key16, "fixd", limit, 0, false)})
	wantCells(t, "P2: the other", other, [api.Cells]string{cellText(258, key32, "four", c, 3, false), cellText(1, key16, "fixd", limit, 0, false)})
}
