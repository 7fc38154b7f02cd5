package cells

import (
	"cachet/aes"
	"cachet/api"
	"cachet/numbers"
)

// mark is how the text of each cell begins that is not empty.
const mark = "k"

// Where the parts of a text begin, behind the mark.
const (
	algAt      = len(mark)
	idAt       = algAt + 1
	fixedAt    = idAt + 2
	sealsAt    = fixedAt + api.FixedLen
	aheadAt    = sealsAt + 2
	mostAt     = aheadAt + 1
	reservedAt = mostAt + 1
	stateAt    = reservedAt + 2
	keyAt      = stateAt + 1
)

// field is a number of a cell, and where it lies in the text.
type field struct {
	value    *int
	from, to int
}

// fields are named once for both ways, so that what is read is what was written.
func (c *Cell) fields() []field {
	return []field{
		{&c.Alg, algAt, idAt},
		{&c.Id, idAt, fixedAt},
		{&c.Seals, sealsAt, aheadAt},
		{&c.Ahead, aheadAt, mostAt},
		{&c.Most, mostAt, reservedAt},
		{&c.Reserved, reservedAt, stateAt},
	}
}

// Text tells the cell's text.
func (c Cell) Text() string {
	if c.State == Empty {
		return ""
	}
	run := make([]byte, keyAt)
	copy(run, mark)
	copy(run[fixedAt:], c.Fixed)
	for _, f := range c.fields() {
		numbers.Put(run[f.from:f.to], uint64(*f.value))
	}
	run[stateAt] = byte(c.State)
	return string(run) + c.Key
}

// Of tells the cell that has a text, and whether there is one.
func Of(text string) (Cell, bool) {
	if text == "" {
		return Cell{}, true
	}
	if len(text) < keyAt || text[:algAt] != mark {
		return Cell{}, false
	}
	c := Cell{State: State(text[stateAt]), Fixed: text[fixedAt:sealsAt], Key: text[keyAt:]}
	for _, f := range c.fields() {
		*f.value = int(numbers.Of([]byte(text[f.from:f.to])))
	}
	return c, c.holds()
}

// holds tells whether a handle may have a cell with these numbers and this key.
func (c Cell) holds() bool {
	_, size := aes.Sizes(c.Alg)
	if size == 0 || !right(c.Config) || c.Reserved > c.Seals {
		return false
	}
	switch c.State {
	case Live:
		return len(c.Key) == size
	case Retired:
		return c.Key == ""
	}
	return false
}
