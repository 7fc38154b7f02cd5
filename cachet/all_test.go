package cachet_test

import (
	"math"
	"strings"
	"testing"

	"cachet/api"
	"cachet/cachet"
)

func oddNumbers() []int {
	return []int{math.MinInt, -1, 0, 1, 7, 8, 200, 65535, 65536, math.MaxInt}
}

func oddTexts() []string {
	texts := []string{"\xff\xfe", "é", strings.Repeat("\x00", 100000), strings.Repeat("\xff", 100001)}
	for _, n := range []int{0, 1, 4, 12, 15, 16, 17, 23, 24, 25, 31, 32, 33, 40, 41, 64, 65, 180, 181, 200, 201} {
		texts = append(texts, strings.Repeat("t", n))
	}
	return texts
}

// TestP1Texts: a panic ends the test; with an error there is no text beside it.
func TestP1Texts(t *testing.T) {
	for _, a := range oddTexts() {
		if r, place, e := cachet.Parse(a); r != (api.Record{}) || place < 0 || place > len(a) || e != api.ErrForm {
			t.Errorf("P1: Parse of %d bytes = %#v, %d, %d", len(a), r, place, e)
		}
		for _, b := range oddTexts() {
			answers := map[string]func() (string, api.Errno){
				"Encrypt": func() (string, api.Errno) { return cachet.Encrypt(a, b) },
				"Hash":    func() (string, api.Errno) { return cachet.Hash(a, b) },
				"Seal":    func() (string, api.Errno) { return cachet.Seal(a, b, a, b) },
				"Open":    func() (string, api.Errno) { return cachet.Open(a, b, b, a) },
				"Encode":  func() (string, api.Errno) { return cachet.Encode(api.Record{Alg: 1, Nonce: a, Body: b, Tag: a}) },
			}
			for name, call := range answers {
				if got, e := call(); e != api.OK && got != "" {
					t.Errorf("P1: %s of %d and %d bytes = %x beside %d", name, len(a), len(b), got, e)
				}
			}
		}
	}
}

func TestP1Numbers(t *testing.T) {
	for _, n := range oddNumbers() {
		if got, e := cachet.Encode(api.Record{Alg: n, Id: n}); e != api.OK && got != "" {
			t.Errorf("P1: Encode of numbers %d = %x beside %d", n, got, e)
		}
		s := cachet.NewStore()
		if got, e := s.Cell(n); e != api.OK && got != "" {
			t.Errorf("P1: Cell(%d) = %x beside %d", n, got, e)
		}
		s.Write(n, "text")
		s.Interrupt(n, true)
		table, _ := cachet.Start(cachet.NewStore())
		table.Create(n, strings.Repeat("k", 16), "fixd", api.Config{Seals: n, Ahead: n, Most: n})
		if got, e := table.Seal(n, "", ""); e != api.OK && got != "" {
			t.Errorf("P1: a table's Seal(%d) = %x beside %d", n, got, e)
		}
		if got, e := table.Status(n); e != api.OK && got != (api.Status{}) {
			t.Errorf("P1: Status(%d) = %v beside %d", n, got, e)
		}
		table.Retire(n)
	}
}

func TestP1TableTexts(t *testing.T) {
	for _, a := range oddTexts() {
		s := cachet.NewStore()
		s.Write(0, a)
		cachet.Start(s)
		table, _ := cachet.Start(cachet.NewStore())
		table.Create(1, a, a, api.Config{Seals: 1, Ahead: 1, Most: 1})
		table.Create(1, strings.Repeat("k", 16), "fixd", api.Config{Seals: 1, Ahead: 1, Most: 200})
		if got, e := table.Seal(1, a, a); e != api.OK && got != "" {
			t.Errorf("P1: a table's Seal of %d bytes = %x beside %d", len(a), got, e)
		}
		if got, e := table.Open(a, a); e != api.OK && got != "" {
			t.Errorf("P1: a table's Open of %d bytes = %x beside %d", len(a), got, e)
		}
	}
}

func TestP1NilStore(t *testing.T) {
	if table, e := cachet.Start(nil); e != api.OK && table != nil {
		t.Errorf("P1: Start(nil) = a table beside %d", e)
	}
}

// TestP1NothingKept: the same question has the same answer, whatever was asked or refused between.
func TestP1NothingKept(t *testing.T) {
	key, block := strings.Repeat("k", 24), strings.Repeat("b", 16)
	encrypted, _ := cachet.Encrypt(key, block)
	hashed, _ := cachet.Hash(block, key+key)
	sealed, _ := cachet.Seal(key, "nonce", "more", "plain")
	for _, a := range oddTexts() {
		cachet.Encrypt(a, block)
		cachet.Encrypt(key, a)
		cachet.Hash(a, key)
		cachet.Hash(block, a)
		cachet.Seal(key, a, a, a)
		cachet.Open(key, a, a, a)
		cachet.Encode(api.Record{Alg: 1, Nonce: a, Body: a, Tag: a})
		cachet.Parse(a)
		got, e := cachet.Encrypt(key, block)
		wantText(t, "P1: Encrypt once more", got, e, encrypted)
		got, e = cachet.Hash(block, key+key)
		wantText(t, "P1: Hash once more", got, e, hashed)
		got, e = cachet.Seal(key, "nonce", "more", "plain")
		wantText(t, "P1: Seal once more", got, e, sealed)
		got, e = cachet.Open(key, "nonce", "more", sealed)
		wantText(t, "P1: Open once more", got, e, "plain")
	}
}

func TestP2Stores(t *testing.T) {
	one, other := cachet.NewStore(), cachet.NewStore()
	for i := range api.Cells {
		one.Write(i, "text")
		if got, e := other.Cell(i); got != "" || e != api.OK {
			t.Errorf("P2: Cell(%d) of another store = %q, %d", i, got, e)
		}
	}
	one.Interrupt(1, false)
	if e := other.Write(0, "text"); e != api.OK {
		t.Errorf("P2: a write in another store than the interrupted one = %d", e)
	}
}

func TestP2Tables(t *testing.T) {
	one, other := cachet.NewStore(), cachet.NewStore()
	table, _ := cachet.Start(one)
	cachet.Start(other)
	key, c := strings.Repeat("k", 16), api.Config{Seals: 1, Ahead: 1, Most: 1}
	if e := table.Create(1, key, "fixd", c); e != api.OK {
		t.Errorf("P2: Create after another store was started = %d", e)
	}
	apart, _ := cachet.Start(other)
	if e := apart.Create(1, key, "fixd", c); e != api.OK {
		t.Errorf("P2: Create of a name that another store's table has = %d", e)
	}
}
