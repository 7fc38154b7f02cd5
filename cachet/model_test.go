package cachet_test

import (
	"math/rand"
	"strings"
	"testing"

	"cachet/api"
	"cachet/cachet"
)

// A model of stores and tables, in the document's words, with handles in a list and the library's seals.

type modelStore struct {
	cells  [api.Cells]string
	writes int // so many were counted
	at     int // which of them is interrupted; 0: none
	done   bool
	starts int
}

type modelHandle struct {
	cell, id          int
	key, fixed        string
	alg               int
	c                 api.Config
	counter, reserved int
	retired           bool
}

type modelTable struct {
	store   *modelStore
	start   int
	down    bool
	handles []*modelHandle
}

func (s *modelStore) write(i int, text string) api.Errno {
	if i < 0 || i > 7 {
		return api.ErrArg
	}
	if len(text) > 64 {
		return api.ErrLong
	}
	s.writes++
	if s.writes != s.at {
		s.cells[i] = text
		return api.OK
	}
	if s.done {
		s.cells[i] = text
	}
	return api.ErrDown
}

func (s *modelStore) interrupt(k int, done bool) api.Errno {
	if k < 0 {
		return api.ErrArg
	}
	s.at, s.done = 0, done
	if k > 0 {
		s.at = s.writes + k
	}
	return api.OK
}

func (h *modelHandle) text(reserved int, retired bool) string {
	text := cellText(h.id, strings.Repeat("x", 8+8*h.alg), h.fixed, h.c, reserved, retired)
	if retired {
		return text
	}
	return text[:15] + h.key
}

func rightConfig(c api.Config) bool {
	return c.Seals >= 1 && c.Seals <= 65535 && c.Ahead >= 1 && c.Ahead <= 100 && c.Most >= 0 && c.Most <= 200
}

// modelOf tells the handle of a cell, by writing down the one that it must be and holding the two texts against each other.
func modelOf(i int, text string) *modelHandle {
	if len(text) < 15 || text[1] < 1 || text[1] > 3 {
		return nil
	}
	two := func(at int) int { return int(text[at])<<8 | int(text[at+1]) }
	h := &modelHandle{cell: i, id: two(2), key: text[15:], fixed: text[4:8], alg: int(text[1]), counter: two(12), reserved: two(12), retired: text[14] == 2}
	h.c = api.Config{Seals: two(8), Ahead: int(text[10]), Most: int(text[11])}
	if !h.retired && len(h.key) != 8+8*h.alg || !rightConfig(h.c) || h.reserved > h.c.Seals || h.text(h.reserved, h.retired) != text {
		return nil
	}
	return h
}

func (s *modelStore) start() (*modelTable, api.Errno) {
	s.starts++
	t := &modelTable{store: s, start: s.starts}
	for i, text := range s.cells {
		if text == "" {
			continue
		}
		h := modelOf(i, text)
		if h == nil || t.find(h.id) != nil {
			return nil, api.ErrStore
		}
		t.handles = append(t.handles, h)
	}
	return t, api.OK
}

func (t *modelTable) over() bool { return t.down || t.start != t.store.starts }

func (t *modelTable) find(id int) *modelHandle {
	for _, h := range t.handles {
		if h.id == id {
			return h
		}
	}
	return nil
}

func (t *modelTable) write(i int, text string) api.Errno {
	e := t.store.write(i, text)
	t.down = t.down || e == api.ErrDown
	return e
}

func (t *modelTable) create(id int, key, fixed string, c api.Config) api.Errno {
	alg := map[int]int{16: 1, 24: 2, 32: 3}[len(key)]
	taken := [api.Cells]bool{}
	for _, h := range t.handles {
		taken[h.cell] = true
	}
	switch {
	case t.over():
		return api.ErrOver
	case id < 0 || id > 65535 || len(fixed) != 4 || !rightConfig(c):
		return api.ErrArg
	case alg == 0:
		return api.ErrKey
	case t.find(id) != nil:
		return api.ErrThere
	case len(t.handles) == 8:
		return api.ErrFull
	}
	h := &modelHandle{id: id, key: key, fixed: fixed, alg: alg, c: c}
	for taken[h.cell] {
		h.cell++
	}
	e := t.write(h.cell, h.text(0, false))
	if e == api.OK {
		t.handles = append(t.handles, h)
	}
	return e
}

func (t *modelTable) seal(test *testing.T, id int, more, plain string) (string, api.Errno) {
	h := t.find(id)
	switch {
	case t.over():
		return "", api.ErrOver
	case h == nil:
		return "", api.ErrNone
	case h.retired:
		return "", api.ErrRetired
	case len(more) > 180 || len(plain) > h.c.Most:
		return "", api.ErrLong
	case h.counter == h.c.Seals:
		return "", api.ErrSpent
	}
	if h.counter == h.reserved {
		more := min(h.reserved+h.c.Ahead, h.c.Seals)
		if e := t.write(h.cell, h.text(more, false)); e != api.OK {
			return "", e
		}
		h.reserved = more
	}
	h.counter++
	return recordOf(test, id, h.key, issued(h.fixed, h.counter-1), more, plain), api.OK
}

func (t *modelTable) open(record, more string) (string, api.Errno) {
	r, _, e := cachet.Parse(record)
	h := t.find(r.Id)
	switch {
	case t.over():
		return "", api.ErrOver
	case len(more) > 180:
		return "", api.ErrLong
	case e != api.OK:
		return "", api.ErrForm
	case h == nil:
		return "", api.ErrNone
	case h.retired:
		return "", api.ErrRetired
	case r.Alg != h.alg:
		return "", api.ErrTag
	}
	return cachet.Open(h.key, r.Nonce, record[:20]+more, record[20:])
}

func (t *modelTable) retire(id int) api.Errno {
	h := t.find(id)
	switch {
	case t.over():
		return api.ErrOver
	case h == nil:
		return api.ErrNone
	case h.retired:
		return api.ErrRetired
	}
	e := t.write(h.cell, h.text(h.reserved, true))
	h.retired = e == api.OK
	return e
}

func (t *modelTable) status(id int) (api.Status, api.Errno) {
	h := t.find(id)
	if h == nil {
		return api.Status{}, api.ErrNone
	}
	return api.Status{Alg: h.alg, Counter: h.counter, Reserved: h.reserved, Retired: h.retired}, api.OK
}

// pair is a table and its model.
type pair struct {
	table *cachet.Table
	model *modelTable
}

// bench has a few stores, with their models, and some tables over each; it asks both the same.
type bench struct {
	t       *testing.T
	r       *rand.Rand
	stores  [2]*cachet.Store
	models  [2]*modelStore
	tables  [2][]pair
	records []string
	seen    map[string]map[api.Errno]int // by call
}

func pick[T any](r *rand.Rand, of ...T) T { return of[r.Intn(len(of))] }

type answer struct {
	text string
	e    api.Errno
}

func (b *bench) same(call string, got, want answer) {
	b.t.Helper()
	if got != want {
		b.t.Errorf("%s = %x, %d, want %x, %d", call, got.text, got.e, want.text, want.e)
	}
	if b.seen[call] == nil {
		b.seen[call] = map[api.Errno]int{}
	}
	b.seen[call][want.e]++
}

func (b *bench) sameErrno(call string, got, want api.Errno) {
	b.t.Helper()
	b.same(call, answer{e: got}, answer{e: want})
}

// step asks one thing of one store, or of one of its tables: mostly of the last one.
func (b *bench) step() {
	b.t.Helper()
	r, i := b.r, b.r.Intn(2)
	s, m := b.stores[i], b.models[i]
	tables := b.tables[i]
	over := len(tables) == 0 || tables[len(tables)-1].model.over()
	switch n := r.Intn(60); {
	case len(tables) == 0 || n == 0 || n < 15 && over:
		b.start(i)
	case n < 3:
		k, done := pick(r, -1, 0, 1, 1, 1, 2, 3, 5), r.Intn(2) == 0
		b.sameErrno("P9: Interrupt", s.Interrupt(k, done), m.interrupt(k, done))
	case n < 4:
		at, text := r.Intn(10)-1, b.cell(i)
		b.sameErrno("P9: Write", s.Write(at, text), m.write(at, text))
	case n < 8:
		b.ask(pick(r, tables...))
	default:
		b.ask(tables[len(tables)-1])
	}
}

// cell makes a text that is at times a handle's.
func (b *bench) cell(i int) string {
	text := pick(b.r, "", "", "", "x", strings.Repeat("k", 65), b.models[i].cells[b.r.Intn(8)])
	if text != "" && b.r.Intn(2) == 0 {
		text = changed(text, b.r.Intn(len(text)), 1)
	}
	return text
}

func (b *bench) start(i int) {
	b.t.Helper()
	x, e := cachet.Start(b.stores[i])
	model, want := b.models[i].start()
	b.sameErrno("P11: Start", e, want)
	if (x == nil) != (model == nil) {
		b.t.Fatalf("P11: Start = %v beside %d", x, e)
	}
	if x == nil { // a store of which no table comes is emptied, so that one comes of it later
		for at := range api.Cells {
			b.sameErrno("P9: Write", b.stores[i].Write(at, ""), b.models[i].write(at, ""))
		}
		return
	}
	b.tables[i] = append(b.tables[i], pair{x, model})
}

func (b *bench) ask(p pair) {
	b.t.Helper()
	r := b.r
	id, more := pick(r, -1, 0, 1, 2, 3, 4, 5, 6, 7, 8, 65535, 65536), strings.Repeat("m", pick(r, 0, 1, 5, 180, 181))
	var got, want answer
	switch r.Intn(12) {
	case 0, 1, 2:
		key, fixed := strings.Repeat("k", pick(r, 16, 16, 24, 32, 33)), pick(r, "fixd", "four", "fixd", "fix")
		c := api.Config{Seals: pick(r, 1, 2, 5, 7, 300), Ahead: pick(r, 1, 2, 3, 100), Most: pick(r, 0, 5, 200)}
		b.sameErrno("P12: Create", p.table.Create(id, key, fixed, c), p.model.create(id, key, fixed, c))
	case 3:
		if r.Intn(3) == 0 {
			b.sameErrno("P15: Retire", p.table.Retire(id), p.model.retire(id))
		}
	case 4, 5, 6:
		record := "no record"
		if len(b.records) > 0 {
			record = pick(r, b.records...)
		}
		if r.Intn(4) == 0 {
			record = changed(record, r.Intn(len(record)), 1<<r.Intn(8))
		}
		more := pick(r, more, "", "m", "mmmmm")
		got.text, got.e = p.table.Open(record, more)
		want.text, want.e = p.model.open(record, more)
		b.same("P14: Open", got, want)
	default:
		plain := strings.Repeat("p", pick(r, 0, 1, 5, 6, 200, 201))
		got.text, got.e = p.table.Seal(id, more, plain)
		want.text, want.e = p.model.seal(b.t, id, more, plain)
		b.same("P13: Seal", got, want)
		if got.e == api.OK {
			b.records = append(b.records, got.text)
		}
	}
}

// look holds all cells and all handles against the models', those of tables that are over among them.
func (b *bench) look() {
	b.t.Helper()
	for i, s := range b.stores {
		wantCells(b.t, "P9: behind all this", s, b.models[i].cells)
		for _, p := range b.tables[i] {
			for _, id := range []int{-1, 0, 1, 2, 3, 4, 5, 6, 7, 8, 65535, 65536} {
				got, e := p.table.Status(id)
				want, f := p.model.status(id)
				if got != want || e != f {
					b.t.Errorf("P16: Status(%d) = %+v, %d, want %+v, %d", id, got, e, want, f)
				}
			}
		}
	}
}

// TestP9ToP16AgainstAModel: long runs of anything, in two stores side by side; each call must have given each of its answers.
func TestP9ToP16AgainstAModel(t *testing.T) {
	seen := map[string]map[api.Errno]int{}
	for seed := range 100 {
		b := &bench{t: t, r: rand.New(rand.NewSource(int64(seed))), seen: seen}
		for i := range b.stores {
			b.stores[i], b.models[i] = newStore(t), &modelStore{}
		}
		for range 500 {
			b.step()
			b.look()
			if t.Failed() {
				t.Fatalf("run %d", seed)
			}
		}
	}
	for call, all := range map[string][]api.Errno{
		"P9: Interrupt": {api.OK, api.ErrArg},
		"P9: Write":     {api.OK, api.ErrArg, api.ErrLong, api.ErrDown},
		"P11: Start":    {api.OK, api.ErrStore},
		"P12: Create":   {api.OK, api.ErrOver, api.ErrArg, api.ErrKey, api.ErrThere, api.ErrFull, api.ErrDown},
		"P13: Seal":     {api.OK, api.ErrOver, api.ErrNone, api.ErrRetired, api.ErrLong, api.ErrSpent, api.ErrDown},
		"P14: Open":     {api.OK, api.ErrOver, api.ErrLong, api.ErrForm, api.ErrNone, api.ErrRetired, api.ErrTag},
		"P15: Retire":   {api.OK, api.ErrOver, api.ErrNone, api.ErrRetired, api.ErrDown},
	} {
		for _, e := range all {
			if seen[call][e] == 0 {
				t.Errorf("the runs are too tame: %s never answers %d", call, e)
			}
		}
	}
}
