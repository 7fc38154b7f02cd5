package cachet

import "cachet/api"

// Store is cells of text.
type Store struct {
	cells [api.Cells]string
	left  int    // writes until one is interrupted, that one counted; 0: none is
	done  bool   // whether that one is done all the same
	table *Table // the one table that is not over, if there is one
}

// NewStore makes a store (P9).
func NewStore() *Store { return &Store{} }

// Cell tells a cell (P9).
func (s *Store) Cell(i int) (string, api.Errno) {
	if !isCell(i) {
		return "", api.ErrArg
	}
	return s.cells[i], api.OK
}

func isCell(i int) bool {
	return i >= 0 && i < api.Cells
}

// Write writes a cell (P9).
func (s *Store) Write(i int, text string) api.Errno {
	if !isCell(i) {
		return api.ErrArg
	}
	if len(text) > api.MaxCell {
		return api.ErrLong
	}
	down := s.interrupted()
	if !down || s.done {
		s.cells[i] = text
	}
	if down {
		return api.ErrDown
	}
	return api.OK
}

// interrupted counts one write, and tells whether it is the one that is to be interrupted.
func (s *Store) interrupted() bool {
	if s.left == 0 {
		return false
	}
	s.left--
	return s.left == 0
}

// Interrupt lets a later write be interrupted (P9).
func (s *Store) Interrupt(k int, done bool) api.Errno {
	if k < 0 {
		return api.ErrArg
	}
	s.left, s.done = k, done
	return api.OK
}
