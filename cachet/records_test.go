package cachet_test

import (
	"math"
	"math/rand"
	"strings"
	"testing"

	"cachet/api"
	"cachet/cachet"
)

func someRecord(r *rand.Rand, size int) api.Record {
	return api.Record{Alg: 1 + r.Intn(3), Id: r.Intn(65536), Nonce: someText(r, 12), Body: someText(r, size), Tag: someText(r, 16)}
}

// bytesOf writes the bytes down as the document's line does, part by part.
func bytesOf(r api.Record) string {
	n := len(r.Body)
	head := []byte{'c', 'g', 1, byte(r.Alg), byte(r.Id / 256), byte(r.Id % 256)}
	return string(head) + r.Nonce + string([]byte{byte(n / 256), byte(n % 256)}) + r.Body + r.Tag
}

func wantRecord(t *testing.T, s string, want api.Record) {
	t.Helper()
	if got, place, e := cachet.Parse(s); got != want || place != 0 || e != api.OK {
		t.Errorf("P8: Parse(%x) = %#v, %d, %d, want %#v", s, got, place, e, want)
	}
}

func wantPlace(t *testing.T, s string, want int) {
	t.Helper()
	if got, place, e := cachet.Parse(s); got != (api.Record{}) || place != want || e != api.ErrForm {
		t.Errorf("P8: Parse(%x) = %#v, %d, %d, want nothing, %d, ErrForm", s, got, place, e, want)
	}
}

// sample is the document's record, and its bytes.
func sample(t *testing.T) (api.Record, string) {
	r := api.Record{Alg: 2, Id: 258, Nonce: "123456789012", Body: "body", Tag: "abcdefghijklmnop"}
	return r, unhex(t, "6367 01 02 0102") + r.Nonce + unhex(t, "0004") + r.Body + r.Tag
}

func TestP7P8Example(t *testing.T) {
	r, s := sample(t)
	got, e := cachet.Encode(r)
	wantText(t, "P7: Encode of the document's record", got, e, s)
	wantRecord(t, s, r)
	if len(s) != 40 {
		t.Errorf("P7: %d bytes", len(s))
	}
}

func TestP7P8Records(t *testing.T) {
	r := rand.New(rand.NewSource(7))
	for size := range 201 {
		rec := someRecord(r, size)
		got, e := cachet.Encode(rec)
		wantText(t, "P7: Encode", got, e, bytesOf(rec))
		wantRecord(t, bytesOf(rec), rec)
	}
	for alg := 1; alg <= 3; alg++ {
		for _, id := range []int{0, 1, 255, 256, 257, 32767, 32768, 65534, 65535} {
			for _, size := range []int{0, 200} {
				rec := someRecord(r, size)
				rec.Alg, rec.Id = alg, id
				got, e := cachet.Encode(rec)
				wantText(t, "P7: Encode", got, e, bytesOf(rec))
				wantRecord(t, bytesOf(rec), rec)
			}
		}
	}
}

func TestP7NoRecord(t *testing.T) {
	right, _ := sample(t)
	var wrong []api.Record
	with := func(turn func(r *api.Record)) {
		r := right
		turn(&r)
		wrong = append(wrong, r)
	}
	for _, n := range []int{math.MinInt, -253, -1, 0, 4, 255, 257, 258, 259, math.MaxInt} {
		with(func(r *api.Record) { r.Alg = n })
	}
	for _, n := range []int{math.MinInt, -65536, -1, 65536, 65537, 1 << 32, math.MaxInt} {
		with(func(r *api.Record) { r.Id = n })
	}
	for _, n := range []int{0, 1, 11, 13, 16, 24, 40, 100000} {
		with(func(r *api.Record) { r.Nonce = strings.Repeat("n", n) })
	}
	for _, n := range []int{201, 216, 255, 256, 257, 65535, 65536, 65540, 100000} {
		with(func(r *api.Record) { r.Body = strings.Repeat("b", n) })
	}
	for _, n := range []int{0, 1, 15, 17, 32, 100000} {
		with(func(r *api.Record) { r.Tag = strings.Repeat("t", n) })
	}
	with(func(r *api.Record) { r.Nonce, r.Tag = r.Nonce+"t", r.Tag[1:] })
	with(func(r *api.Record) { *r = api.Record{} })
	for _, r := range wrong {
		got, e := cachet.Encode(r)
		wantError(t, "P7: Encode of no record", got, e, api.ErrArg)
	}
}

// TestP8Heads puts each byte at each place of a head.
func TestP8Heads(t *testing.T) {
	r, s := sample(t)
	rights := map[int]func(b int) bool{
		0:  func(b int) bool { return b == 'c' },
		1:  func(b int) bool { return b == 'g' },
		2:  func(b int) bool { return b == 1 },
		3:  func(b int) bool { return b >= 1 && b <= 3 },
		18: func(b int) bool { return b == 0 },
		19: func(b int) bool { return b <= 200 },
	}
	for at := range 20 {
		for b := range 256 {
			text := s[:at] + string([]byte{byte(b)}) + s[at+1:]
			right, asked := rights[at]
			switch {
			case asked && !right(b):
				wantPlace(t, text, at)
				wantPlace(t, text[:at+1], at)
				wantPlace(t, text[:at], at)
			case at == 19 && b > len(r.Body):
				wantPlace(t, text, len(text))
			case at == 19 && b < len(r.Body):
				wantPlace(t, text, 36+b)
			default:
				rec, _, e := cachet.Parse(text)
				if e != api.OK || bytesOf(rec) != text {
					t.Errorf("P8: Parse(%x) = %#v, %d", text, rec, e)
				}
			}
		}
	}
}

// TestP8FirstOfSeveral: of several wrong bytes it is the first one that is told, and a wrong byte goes ahead of an early end.
func TestP8FirstOfSeveral(t *testing.T) {
	_, s := sample(t)
	wrong := []int{0, 1, 2, 3, 18, 19}
	for i, at := range wrong {
		text := s
		for _, later := range wrong[i:] {
			text = text[:later] + "\xff" + text[later+1:]
		}
		for end := at + 1; end <= len(text); end++ {
			wantPlace(t, text[:end], at)
		}
		wantPlace(t, text+strings.Repeat("x", 300), at)
	}
}

func TestP8Ends(t *testing.T) {
	r := rand.New(rand.NewSource(8))
	for _, size := range []int{0, 1, 4, 15, 16, 17, 199, 200} {
		s := bytesOf(someRecord(r, size))
		for end := range s {
			wantPlace(t, s[:end], end)
		}
		for _, behind := range []string{"x", "\x00", s, strings.Repeat("x", 100000)} {
			wantPlace(t, s+behind, len(s))
		}
	}
}

// someRecordGoesOn makes the record that begins with a text, if there is one: where the text says nothing, any bytes do.
func someRecordGoesOn(text string) bool {
	filled := text + strings.Repeat("\x00", 300)
	r := api.Record{Alg: 1, Id: int(filled[4])<<8 | int(filled[5]), Nonce: filled[6:18]}
	if len(text) > 3 {
		r.Alg = int(text[3])
	}
	size := int(filled[18])<<8 | int(filled[19])
	if size > 200 {
		return false
	}
	r.Body, r.Tag = filled[20:20+size], filled[20+size:36+size]
	s, e := cachet.Encode(r)
	return e == api.OK && strings.HasPrefix(s, text)
}

// slowPlace tries ever longer beginnings of the text, by the document's own words.
func slowPlace(s string) int {
	for end := 1; end <= len(s); end++ {
		if !someRecordGoesOn(s[:end]) {
			return end - 1
		}
	}
	return len(s)
}

func TestP8AgainstSlowPlaces(t *testing.T) {
	r := rand.New(rand.NewSource(88))
	for range 2000 {
		b := []byte(bytesOf(someRecord(r, r.Intn(30))))
		for range r.Intn(3) {
			b[r.Intn(24)] = byte(r.Intn(256))
		}
		switch at := r.Intn(len(b)); r.Intn(4) {
		case 0:
			b = b[:at]
		case 1:
			b = append(b, b[at:]...)
		case 2:
			b = append(b[:at], b[at+1:]...)
		}
		s := string(b)
		rec, _, e := cachet.Parse(s)
		if e == api.OK {
			if bytesOf(rec) != s {
				t.Errorf("P8: Parse(%x) = %#v, of which Encode gives something else", s, rec)
			}
			continue
		}
		wantPlace(t, s, slowPlace(s))
	}
}
