package handles

import (
	"strings"
	"testing"

	"cachet/api"
	"cachet/cells"
	"cachet/records"
)

func sample(t *testing.T) Handle {
	t.Helper()
	c, e := cells.New(258, strings.Repeat("k", 16), "fixd", api.Config{Seals: 3, Ahead: 2, Most: 10})
	if e != api.OK {
		t.Fatalf("New = %d", e)
	}
	return Of(c)
}

// TestCellsMethods: what the embedded cell can do, the handle can do.
func TestCellsMethods(t *testing.T) {
	h := sample(t)
	if h.Text() != h.Cell.Text() || h.Reserving() != h.Cell.Reserving() || h.Retiring() != h.Cell.Retiring() {
		t.Error("a method of the cell is not the handle's")
	}
}

func TestOfBeginsBehindReserved(t *testing.T) {
	h := sample(t)
	if got := Of(h.Reserving()); got.counter != 2 || !got.Short() || got.Spent() {
		t.Errorf("the handle of a cell with 2 reserved: %#v", got)
	}
	if got := Of(h.Reserving().Reserving()); got.counter != 3 || !got.Short() || !got.Spent() {
		t.Errorf("the handle of a cell with all reserved: %#v", got)
	}
}

func TestSealCounts(t *testing.T) {
	h := sample(t)
	h.Cell = h.Reserving().Reserving()
	for count := range 3 {
		if h.Spent() || h.Short() {
			t.Errorf("behind %d seals of 3: %v, %v", count, h.Spent(), h.Short())
		}
		s := h.Seal("more", "plain")
		r, _, ok := records.Parse(s)
		if want := "fixd\x00\x00\x00\x00\x00\x00\x00" + string([]byte{byte(count)}); !ok || r.Nonce != want {
			t.Errorf("seal %d: %q with the nonce %q", count, s, r.Nonce)
		}
		if got, ok := h.Open(r, "more"); got != "plain" || !ok {
			t.Errorf("seal %d is opened as %q, %v", count, got, ok)
		}
		if got := h.Status(); got != (api.Status{Alg: 1, Counter: count + 1, Reserved: 3}) {
			t.Errorf("Status = %v", got)
		}
	}
	if !h.Spent() || !h.Short() {
		t.Errorf("behind 3 seals of 3: %v, %v", h.Spent(), h.Short())
	}
}

// TestNoncesOfGreatCounters: all eight bytes of the counter are the nonce's.
func TestNoncesOfGreatCounters(t *testing.T) {
	h := sample(t)
	h.counter = 0x0102030405060708
	if got := h.nonce(); got != "fixd\x01\x02\x03\x04\x05\x06\x07\x08" {
		t.Errorf("nonce = %q", got)
	}
}

// TestRetiredOpensNothing: a handle without a key opens nothing, whoever asks.
func TestRetiredOpensNothing(t *testing.T) {
	h := sample(t)
	r, _, _ := records.Parse(h.Seal("", "plain"))
	h.Cell = h.Retiring()
	if got, ok := h.Open(r, ""); got != "" || ok {
		t.Errorf("a retired handle opens %q, %v", got, ok)
	}
}
