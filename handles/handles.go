// Package handles: keys that issue their nonces themselves.
package handles

import (
	"cachet/api"
	"cachet/blocks"
	"cachet/cells"
	"cachet/gcm"
	"cachet/numbers"
	"cachet/records"
)

// Handle is what its cell tells, and how many seals it has begun, which no cell tells.
type Handle struct {
	cells.Cell
	counter int
}

// Of tells the handle of a cell: of those that were reserved it begins none again, since it can't know how many were begun.
func Of(c cells.Cell) Handle {
	return Handle{Cell: c, counter: c.Reserved}
}

// Status tells how the handle is.
func (h *Handle) Status() api.Status {
	return api.Status{Alg: h.Alg, Counter: h.counter, Reserved: h.Reserved, Retired: h.State == cells.Retired}
}

// Spent tells whether all seals have been begun that there may be.
func (h *Handle) Spent() bool {
	return h.counter == h.Seals
}

// Short tells whether all seals have been begun that are reserved.
func (h *Handle) Short() bool {
	return h.counter == h.Reserved
}

// Seal tells the record of a plain text under the next nonce, which must be reserved.
func (h *Handle) Seal(more string, plain string) string {
	// The head tells the body's length, and the plain text has the same.
	r := api.Record{Alg: h.Alg, Id: h.Id, Nonce: h.nonce(), Body: plain}
	h.counter++
	mode, _ := gcm.New(h.Key)
	body, tag := mode.Seal(r.Nonce, records.Bound(r, more), plain)
	r.Body, r.Tag = body, tag.Text()
	s, _ := records.Encode(r)
	return s
}

func (h *Handle) nonce() string {
	var count [api.NonceLen - api.FixedLen]byte
	numbers.Put(count[:], uint64(h.counter))
	return h.Fixed + string(count[:])
}

// Open tells the plain text of a record, and whether it was sealed so by this handle's key.
func (h *Handle) Open(r api.Record, more string) (string, bool) {
	mode, ok := gcm.New(h.Key)
	if !ok || r.Alg != h.Alg {
		return "", false
	}
	tag, _ := blocks.Of(r.Tag)
	return mode.Open(r.Nonce, records.Bound(r, more), r.Body, tag)
}
