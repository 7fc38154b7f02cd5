// Package cells: what a handle's cell tells, and its text.
package cells

import (
	"cachet/aes"
	"cachet/api"
)

// State is the kind of a cell.
type State int

// The cell's text holds these numbers: no text holds that of an empty cell.
const (
	Empty State = iota
	Live
	Retired
)

// Cell is what the text of a cell tells; nothing else, so that a table that is started anew knows no less.
type Cell struct {
	State   State
	Alg, Id int
	Fixed   string
	api.Config
	Reserved int
	Key      string
}

// New tells the cell of a handle that has sealed nothing yet.
func New(id int, key string, fixed string, c api.Config) (Cell, api.Errno) {
	if id < 0 || id > api.MaxId || len(fixed) != api.FixedLen || !right(c) {
		return Cell{}, api.ErrArg
	}
	alg := aes.Alg(key)
	if alg == 0 {
		return Cell{}, api.ErrKey
	}
	return Cell{State: Live, Alg: alg, Id: id, Fixed: fixed, Config: c, Key: key}, api.OK
}

func right(c api.Config) bool {
	return c.Seals >= 1 && c.Seals <= api.MaxSeals &&
		c.Ahead >= 1 && c.Ahead <= api.MaxAhead &&
		c.Most >= 0 && c.Most <= api.MaxText
}

// Reserving tells the cell with more seals reserved.
func (c Cell) Reserving() Cell {
	c.Reserved = min(c.Reserved+c.Ahead, c.Seals)
	return c
}

// Retiring tells the cell of the same handle when it is retired: without a key nobody seals or opens by it again.
func (c Cell) Retiring() Cell {
	c.State = Retired
	c.Key = ""
	return c
}
