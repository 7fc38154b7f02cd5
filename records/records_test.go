package records

import (
	"bytes"
	"strings"
	"testing"

	"cachet/api"
)

func sameRun(p parts, run []byte) bool {
	return bytes.Equal(bytes.Join([][]byte{p.mark, p.alg, p.id, p.nonce, p.size, p.body, p.tag}, nil), run) &&
		bytes.Equal(bytes.Join([][]byte{p.head, p.body, p.tag}, nil), run)
}

// TestCutTellsTheRun: the parts lie in the run itself, one behind the other, and leave nothing out.
func TestCutTellsTheRun(t *testing.T) {
	for _, size := range []int{0, 1, 16, 200} {
		run := []byte(strings.Repeat("0123456789", 30)[:length(size)])
		p := cut(run)
		if !sameRun(p, run) || len(p.body) != size || len(p.tag) != 16 || len(p.nonce) != 12 {
			t.Errorf("a run with a body of %d bytes is cut into %q", size, p)
		}
		for i := range run {
			run[i] ^= 0x80
		}
		if !sameRun(p, run) {
			t.Errorf("the parts do not change with their run: %q", p)
		}
	}
}

// TestPartsHaveNoRoom appends to each part: the run must stay as it was.
func TestPartsHaveNoRoom(t *testing.T) {
	whole := []byte(strings.Repeat("r", length(5)+40))
	p := cut(whole[:length(5)])
	for i, part := range [][]byte{p.mark, p.alg, p.id, p.nonce, p.size, p.body, p.tag, p.head} {
		if cap(part) != len(part) {
			t.Errorf("part %d has %d bytes, and room for %d", i, len(part), cap(part))
		}
		_ = append(part, "appended"...)
	}
	if strings.Trim(string(whole), "r") != "" {
		t.Errorf("what was appended lies in the run: %q", whole)
	}
}

func TestPlaces(t *testing.T) {
	if algAt != 3 || idAt != 4 || nonceAt != 6 || sizeAt != 18 || length(0) != 36 {
		t.Errorf("places: %d, %d, %d, %d; %d bytes", algAt, idAt, nonceAt, sizeAt, length(0))
	}
}

// TestBound: the head tells the body's length; what the body and the tag are does not matter, nor do they lie in what is told.
func TestBound(t *testing.T) {
	r := api.Record{Alg: 3, Id: 258, Nonce: "123456789012", Body: strings.Repeat("b", 200), Tag: strings.Repeat("t", 16)}
	for _, more := range []string{"", "more", strings.Repeat("m", 180), strings.Repeat("m", 300)} {
		want := "cg\x01\x03\x01\x02123456789012\x00\xc8" + more
		if got := Bound(r, more); got != want {
			t.Errorf("Bound with %d bytes = %q, want %q", len(more), got, want)
		}
		other := r
		other.Body, other.Tag = strings.Repeat("x", 200), ""
		if got := Bound(other, more); got != want {
			t.Errorf("Bound of another body with %d bytes = %q, want %q", len(more), got, want)
		}
	}
}
