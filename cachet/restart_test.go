package cachet_test

import (
	"math/rand"
	"strconv"
	"testing"

	"cachet/api"
	"cachet/cachet"
)

// witness holds what handles do against P18, over one store into which nobody else writes.
type witness struct {
	t       *testing.T
	what    string
	store   *cachet.Store
	table   *cachet.Table
	nonces  map[string]bool    // by handle and nonce
	records map[int][]string   // by handle
	limits  map[int]api.Config // by handle
	retired map[int]bool       // for sure, behind a Retire that was not interrupted
}

func newWitness(t *testing.T, what string) *witness {
	t.Helper()
	w := &witness{t: t, what: what, store: newStore(t), nonces: map[string]bool{}, records: map[int][]string{}, limits: map[int]api.Config{}, retired: map[int]bool{}}
	w.start()
	return w
}

// start starts a table, and asks it for every record that was ever given.
func (w *witness) start() {
	w.t.Helper()
	w.table = started(w.t, w.store)
	for id := range w.records {
		w.opens(id)
	}
}

// opens asks the table for every record of a handle: all are opened, or the handle is retired.
func (w *witness) opens(id int) {
	w.t.Helper()
	status, e := w.table.Status(id)
	if e != api.OK {
		w.t.Fatalf("P18: %s: handle %d, which has sealed, is gone: %d", w.what, id, e)
	}
	if w.retired[id] && !status.Retired {
		w.t.Fatalf("P18: %s: handle %d is not retired any more", w.what, id)
	}
	w.retired[id] = status.Retired
	for n, record := range w.records[id] {
		got, e := w.table.Open(record, "more")
		if status.Retired {
			wantError(w.t, "P18: "+w.what+": Open by a retired handle", got, e, api.ErrRetired)
		} else {
			wantText(w.t, "P18: "+w.what+": Open of seal "+strconv.Itoa(n), got, e, "text")
		}
	}
}

func (w *witness) create(id int, key string, c api.Config) {
	// A write that was interrupted may have been done; if not, the next Create that writes says what the limits are.
	if e := w.table.Create(id, key, "fixd", c); e == api.OK || e == api.ErrDown {
		w.limits[id] = c
	}
}

func (w *witness) seal(id int) {
	w.t.Helper()
	record, e := w.table.Seal(id, "more", "text")
	if e != api.OK {
		return
	}
	r, _, _ := cachet.Parse(record)
	used := strconv.Itoa(id) + " " + r.Nonce
	if w.nonces[used] {
		w.t.Errorf("P18: %s: handle %d issues the nonce %x twice", w.what, id, r.Nonce)
	}
	w.nonces[used] = true
	w.records[id] = append(w.records[id], record)
	if w.retired[id] {
		w.t.Errorf("P18: %s: handle %d is retired and seals", w.what, id)
	}
	if len(w.records[id]) > w.limits[id].Seals {
		w.t.Errorf("P18: %s: handle %d seals %d times of %d", w.what, id, len(w.records[id]), w.limits[id].Seals)
	}
}

func (w *witness) retire(id int) {
	if e := w.table.Retire(id); e == api.OK {
		w.retired[id] = true
	}
}

// do takes one letter as one step.
func (w *witness) do(step rune) {
	w.t.Helper()
	switch step {
	case 's':
		w.seal(1)
	case 'n':
		w.store.Interrupt(1, false)
	case 'd':
		w.store.Interrupt(1, true)
	case 'a':
		w.start()
	case 'r':
		w.retire(1)
	}
}

// TestP18AllShortRuns goes through all runs of seals, interruptions (done or not), starts and retirements of some length.
func TestP18AllShortRuns(t *testing.T) {
	const steps, length = "sndar", 6
	for _, ahead := range []int{1, 2, 3} {
		runs := []string{""}
		for range length {
			var longer []string
			for _, run := range runs {
				for _, step := range steps {
					longer = append(longer, run+string(step))
				}
			}
			runs = longer
		}
		for _, run := range runs {
			w := newWitness(t, "Ahead "+strconv.Itoa(ahead)+", "+run)
			w.create(1, key16, api.Config{Seals: 4, Ahead: ahead, Most: 4})
			for _, step := range run {
				w.do(step)
			}
			w.start()
			for range 5 {
				w.seal(1)
			}
			w.start()
			if t.Failed() {
				return
			}
		}
	}
}

// TestP18LongRuns: several handles, created when it comes about, in runs that are interrupted again and again.
func TestP18LongRuns(t *testing.T) {
	for seed := range 20 {
		r := rand.New(rand.NewSource(int64(seed)))
		w := newWitness(t, "run "+strconv.Itoa(seed))
		for range 400 {
			id := r.Intn(10)
			switch r.Intn(20) {
			case 0, 1:
				w.store.Interrupt(1+r.Intn(3), r.Intn(2) == 0)
			case 2:
				w.start()
			case 3:
				if r.Intn(10) == 0 {
					w.retire(id)
				}
			case 4, 5:
				c := api.Config{Seals: 1 + r.Intn(30), Ahead: 1 + r.Intn(5), Most: 4}
				w.create(id, pick(r, key16, key24, key32), c)
			default:
				w.seal(id)
			}
			if _, e := w.table.Open("", ""); e == api.ErrOver {
				w.start()
			}
		}
		w.start()
		if t.Failed() {
			return
		}
	}
}
