package cachet

import (
	"cachet/api"
	"cachet/cells"
	"cachet/handles"
	"cachet/records"
)

// Table is handles over a store.
type Table struct {
	store   *Store
	handles [api.Cells]handles.Handle // each at the number of its cell
}

// Start makes a table of what a store holds (P11).
func Start(s *Store) (*Table, api.Errno) {
	if s == nil {
		return nil, api.ErrArg
	}
	s.table = nil // ahead of all else: the last table is over even if there is no new one
	t := &Table{store: s}
	for i, text := range s.cells {
		cell, ok := cells.Of(text)
		if !ok || cell.State != cells.Empty && t.has(cell.Id) {
			return nil, api.ErrStore
		}
		t.handles[i] = handles.Of(cell)
	}
	s.table = t
	return t, api.OK
}

func (t *Table) over() bool {
	return t.store.table != t
}

// find tells in which cell the handle of that name lies, and whether there is one.
func (t *Table) find(id int) (int, bool) {
	for i, h := range t.handles {
		if h.State != cells.Empty && h.Id == id {
			return i, true
		}
	}
	return 0, false
}

func (t *Table) has(id int) bool {
	_, ok := t.find(id)
	return ok
}

// free tells the first cell in which no handle lies, and whether there is one.
func (t *Table) free() (int, bool) {
	for i, h := range t.handles {
		if h.State == cells.Empty {
			return i, true
		}
	}
	return 0, false
}

// live tells in which cell a handle lies that is not retired.
func (t *Table) live(id int) (int, api.Errno) {
	i, ok := t.find(id)
	if !ok {
		return 0, api.ErrNone
	}
	if t.handles[i].State == cells.Retired {
		return 0, api.ErrRetired
	}
	return i, api.OK
}

// put writes a cell; the handle follows only behind a write that was not interrupted, and nobody but a new table may go on behind one that was.
func (t *Table) put(i int, c cells.Cell) api.Errno {
	if e := t.store.Write(i, c.Text()); e != api.OK {
		t.store.table = nil
		return e
	}
	t.handles[i].Cell = c
	return api.OK
}

// Create makes a handle (P12).
func (t *Table) Create(id int, key string, fixed string, c api.Config) api.Errno {
	if t.over() {
		return api.ErrOver
	}
	cell, e := cells.New(id, key, fixed, c)
	if e != api.OK {
		return e
	}
	if t.has(id) {
		return api.ErrThere
	}
	i, ok := t.free()
	if !ok {
		return api.ErrFull
	}
	return t.put(i, cell)
}

// Seal seals a text with a handle's next nonce (P13).
func (t *Table) Seal(id int, more string, plain string) (string, api.Errno) {
	if t.over() {
		return "", api.ErrOver
	}
	i, e := t.live(id)
	if e != api.OK {
		return "", e
	}
	h := &t.handles[i]
	if tooLong(more) || len(plain) > h.Most {
		return "", api.ErrLong
	}
	if h.Spent() {
		return "", api.ErrSpent
	}
	if h.Short() {
		if e := t.put(i, h.Reserving()); e != api.OK {
			return "", e
		}
	}
	return h.Seal(more, plain), api.OK
}

// tooLong leaves room for the head, with which more is bound to a body.
func tooLong(more string) bool {
	return len(more) > api.MaxText-api.HeadLen
}

// Open opens a record (P14).
func (t *Table) Open(record string, more string) (string, api.Errno) {
	if t.over() {
		return "", api.ErrOver
	}
	if tooLong(more) {
		return "", api.ErrLong
	}
	r, _, ok := records.Parse(record)
	if !ok {
		return "", api.ErrForm
	}
	i, e := t.live(r.Id)
	if e != api.OK {
		return "", e
	}
	plain, ok := t.handles[i].Open(r, more)
	if !ok {
		return "", api.ErrTag
	}
	return plain, api.OK
}

// Retire ends a handle (P15).
func (t *Table) Retire(id int) api.Errno {
	if t.over() {
		return api.ErrOver
	}
	i, e := t.live(id)
	if e != api.OK {
		return e
	}
	return t.put(i, t.handles[i].Retiring())
}

// Status tells how a handle is (P16).
func (t *Table) Status(id int) (api.Status, api.Errno) {
	i, ok := t.find(id)
	if !ok {
		return api.Status{}, api.ErrNone
	}
	return t.handles[i].Status(), api.OK
}
