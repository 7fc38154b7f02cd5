// Package records: a sealed message as one run of bytes.
package records

import (
	"cachet/aes"
	"cachet/api"
	"cachet/numbers"
)

// mark is how each record begins; its last byte is the number of this form of records.
const mark = "cg\x01"

// Where the parts of a head begin, behind the mark.
const (
	algAt   = len(mark)
	idAt    = algAt + 1
	nonceAt = idAt + 2
	sizeAt  = nonceAt + api.NonceLen
)

// parts are pieces of one run; none has room behind it, so that nothing appended to one runs into the next.
type parts struct {
	mark, alg, id, nonce, size, body, tag []byte

	head []byte // all ahead of the body
}

// cut tells the parts of a run that is long enough for a head and a tag.
func cut(run []byte) parts {
	end := len(run) - api.Block
	return parts{
		mark:  run[:algAt:algAt],
		alg:   run[algAt:idAt:idAt],
		id:    run[idAt:nonceAt:nonceAt],
		nonce: run[nonceAt:sizeAt:sizeAt],
		size:  run[sizeAt:api.HeadLen:api.HeadLen],
		body:  run[api.HeadLen:end:end],
		tag:   run[end:len(run):len(run)],
		head:  run[:api.HeadLen:api.HeadLen],
	}
}

// length tells how many bytes a record has whose body has size bytes.
func length(size int) int {
	return api.HeadLen + size + api.Block
}

// Encode tells a record's bytes, and whether it is a record.
func Encode(r api.Record) (string, bool) {
	if !right(r) {
		return "", false
	}
	return string(runOf(r)), true
}

// Bound tells a record's head followed by more: what is bound to the body unsealed. Of the body only the length matters.
func Bound(r api.Record, more string) string {
	head := cut(runOf(r)).head
	return string(append(head, more...))
}

// runOf puts a record together.
func runOf(r api.Record) []byte {
	run := make([]byte, length(len(r.Body)))
	p := cut(run)
	copy(p.mark, mark)
	numbers.Put(p.alg, uint64(r.Alg))
	numbers.Put(p.id, uint64(r.Id))
	copy(p.nonce, r.Nonce)
	numbers.Put(p.size, uint64(len(r.Body)))
	copy(p.body, r.Body)
	copy(p.tag, r.Tag)
	return run
}

func right(r api.Record) bool {
	return isAlg(r.Alg) && r.Id >= 0 && r.Id <= api.MaxId &&
		len(r.Nonce) == api.NonceLen && len(r.Body) <= api.MaxText && len(r.Tag) == api.Block
}

func isAlg(alg int) bool {
	_, size := aes.Sizes(alg)
	return size > 0
}

// Parse tells the record that some bytes are and true, or the place of their fault and false.
func Parse(s string) (api.Record, int, bool) {
	if place, ok := fault(s); ok {
		return api.Record{}, place, false
	}
	p := cut([]byte(s))
	return api.Record{
		Alg:   int(numbers.Of(p.alg)),
		Id:    int(numbers.Of(p.id)),
		Nonce: string(p.nonce),
		Body:  string(p.body),
		Tag:   string(p.tag),
	}, 0, true
}

// fault tells the place of the first byte with which no record goes on, and whether there is such a place.
func fault(s string) (int, bool) {
	for i := range min(len(s), api.HeadLen) {
		if !goesOn(i, s[i]) {
			return i, true
		}
	}
	if len(s) < api.HeadLen {
		return len(s), true
	}
	whole := length(int(numbers.Of([]byte(s[sizeAt:api.HeadLen]))))
	return min(len(s), whole), len(s) != whole
}

// goesOn tells whether a head that is right so far may have the byte b at the place i.
func goesOn(i int, b byte) bool {
	switch {
	case i < algAt:
		return b == mark[i]
	case i == algAt:
		return isAlg(int(b))
	case i == sizeAt: // the greatest body's length needs the lower byte only
		return b == 0
	case i == sizeAt+1:
		return b <= api.MaxText
	}
	return true
}
