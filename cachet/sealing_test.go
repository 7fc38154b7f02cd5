package cachet_test

import (
	"crypto/aes"
	"crypto/cipher"
	"math/big"
	"math/rand"
	"strconv"
	"strings"
	"testing"

	"cachet/api"
	"cachet/cachet"
)

// librarySeal is the library's answer to what Seal is asked.
func librarySeal(t *testing.T, key, nonce, more, plain string) string {
	t.Helper()
	c, err := aes.NewCipher([]byte(key))
	if err != nil {
		t.Fatal(err)
	}
	mode, err := cipher.NewGCMWithNonceSize(c, len(nonce))
	if err != nil {
		t.Fatal(err)
	}
	return string(mode.Seal(nil, []byte(nonce), []byte(plain), []byte(more)))
}

// wantSealed asks for both ways between a plain text and its sealed one.
func wantSealed(t *testing.T, key, nonce, more, plain, sealed string) {
	t.Helper()
	of := " with a key, a nonce, more and a text of " + lengths(key, nonce, more, plain) + " bytes"
	got, e := cachet.Seal(key, nonce, more, plain)
	wantText(t, "P5: Seal"+of, got, e, sealed)
	got, e = cachet.Open(key, nonce, more, sealed)
	wantText(t, "P6: Open"+of, got, e, plain)
}

func lengths(texts ...string) string {
	var told []string
	for _, text := range texts {
		told = append(told, strconv.Itoa(len(text)))
	}
	return strings.Join(told, ", ")
}

// changed is the text with another byte at that place.
func changed(text string, at int, by byte) string {
	b := []byte(text)
	b[at] ^= by
	return string(b)
}

func TestP5P6KnownValues(t *testing.T) {
	const (
		key   = "feffe9928665731c6d6a8f9467308308"
		nonce = "cafebabefacedbaddecaf888"
		more  = "feedfacedeadbeeffeedfacedeadbeefabaddad2"
		plain = "d9313225f88406e5a55909c5aff5269a86a7a9531534f7da2e4c303d8a318a721c3c0c95956809532fcf0e2449a6b525b16aedf5aa0de657ba637b391aafd255"
		body  = "42831ec2217774244b7221b784d0d49ce3aa212f2c02a4e035c17e2329aca12e21d514b25466931c7d8f6a5aac84aa051ba30b396a0aac973d58e091473f5985"
		short = "61353b4c2806934a777ff51fa22a4755699b2a714fcdc6f83766e5f97b6c742373806900e49f24b22b097544d4896b424989b5e1ebac0f07c23f4598"
	)
	zero := strings.Repeat("00", 32)
	for _, c := range []struct{ key, nonce, more, plain, want string }{
		{zero[:32], zero[:24], "", "", "58e2fccefa7e3061367f1d57a4e7455a"},
		{zero[:32], zero[:24], "", zero[:32], "0388dace60b6a392f328c2b971b2fe78 ab6e47d42cec13bdf53a67b21257bddf"},
		{key, nonce, "", plain, body + "4d5c2af327cd64a62cf35abd2ba6fab4"},
		{key, nonce, more, plain[:120], body[:120] + "5bc94fbc3221a5db94fae95ae7121a47"},
		{key, nonce[:16], more, plain[:120], short + "3612d2e79e3b0785561be14aaca2fccb"},
		{zero[:48], zero[:24], "", "", "cd33b28ac773f74ba00ed1f312572435"},
		{zero[:48], zero[:24], "", zero[:32], "98e7247c07f0fe411c267e4384b0f600 2ff58d80033927ab8ef4d4587514f0fb"},
		{zero, zero[:24], "", "", "530f8afbc74536b9a963b4f1c4cb738b"},
		{zero, zero[:24], "", zero[:32], "cea7403d4d606b6e074ec5d3baf39d18 d0d1c8a799996bf0265b98b5d48ab919"},
	} {
		wantSealed(t, unhex(t, c.key), unhex(t, c.nonce), unhex(t, c.more), unhex(t, c.plain), unhex(t, c.want))
	}
}

func TestP5P6NoncesAgainstTheLibrary(t *testing.T) {
	r := rand.New(rand.NewSource(5))
	for n := 1; n <= 40; n++ {
		for _, size := range []int{16, 24, 32} {
			key, nonce, more, plain := someText(r, size), someText(r, n), someText(r, r.Intn(201)), someText(r, r.Intn(201))
			wantSealed(t, key, nonce, more, plain, librarySeal(t, key, nonce, more, plain))
		}
	}
}

func TestP5P6TextsAgainstTheLibrary(t *testing.T) {
	r := rand.New(rand.NewSource(56))
	for _, m := range []int{0, 1, 15, 16, 17, 31, 32, 199, 200} {
		for p := range 201 {
			key, nonce, more, plain := someText(r, 16+8*(p%3)), someText(r, 12-p%2), someText(r, m), someText(r, p)
			wantSealed(t, key, nonce, more, plain, librarySeal(t, key, nonce, more, plain))
		}
	}
}

// nonceFor tells the nonce of 16 bytes of which the first block under the key is the given one, by dividing twice by what Hash multiplies by.
func nonceFor(t *testing.T, key string, first string) string {
	t.Helper()
	h, e := cachet.Encrypt(key, zeros)
	if e != api.OK {
		t.Fatal(e)
	}
	inverse := number("\x80" + zeros[1:])
	for range 127 { // 2^128 - 2 is the sum of the powers of 2 from the first to the 127th
		h = blockOf(product(number(h), number(h)))
		inverse = product(inverse, number(h))
	}
	length := number(zeros[:15] + "\x80") // 128 bits
	nonce := new(big.Int).Xor(product(number(first), inverse), length)
	return blockOf(product(nonce, inverse))
}

// TestP5CountComesRound seals with first blocks whose last four bytes come round to 0 within the text.
func TestP5CountComesRound(t *testing.T) {
	r := rand.New(rand.NewSource(555))
	for _, last := range []string{"\xff\xff\xff\xff", "\xff\xff\xff\xfe", "\xff\xff\xff\xf8", "\x00\xff\xff\xff", "\x00\x00\x00\xfe", "\x7f\xff\xff\xff"} {
		for _, size := range []int{16, 24, 32} {
			key, first, plain := someText(r, size), strings.Repeat("\xff", 12)+last, someText(r, 200)
			nonce := nonceFor(t, key, first)
			alone, _ := cachet.Encrypt(key, first) // the hash of nothing but lengths of 0 is 0
			got, e := cachet.Seal(key, nonce, "", "")
			wantText(t, "P5: Seal of nothing with a chosen first block", got, e, alone)
			wantSealed(t, key, nonce, "more", plain, librarySeal(t, key, nonce, "more", plain))
		}
	}
}

// TestP5P6Errors goes through all lengths together, so that the error named first is seen to be the answer.
func TestP5P6Errors(t *testing.T) {
	all := strings.Repeat("x", 300)
	keys := map[int]bool{16: true, 24: true, 32: true}
	for _, k := range []int{0, 15, 16, 17, 23, 24, 25, 31, 32, 33, 40} {
		for _, n := range []int{0, 1, 11, 12, 13, 40, 41, 300} {
			for _, m := range []int{0, 1, 15, 16, 17, 200, 201, 300} {
				for _, p := range []int{0, 1, 15, 16, 17, 200, 201, 216, 217, 300} {
					key, nonce, more, text := all[:k], all[:n], all[:m], all[:p]
					seal, open := api.OK, api.ErrTag
					switch {
					case !keys[k]:
						seal, open = api.ErrKey, api.ErrKey
					case n < 1 || n > 40:
						seal, open = api.ErrNonce, api.ErrNonce
					case m > 200:
						seal, open = api.ErrLong, api.ErrLong
					case p > 216:
						seal, open = api.ErrLong, api.ErrLong
					case p > 200:
						seal = api.ErrLong
					case p < 16:
						open = api.ErrSize
					}
					of := " with a key, a nonce, more and a text of " + lengths(key, nonce, more, text) + " bytes"
					got, e := cachet.Open(key, nonce, more, text)
					wantError(t, "P6: Open"+of, got, e, open)
					got, e = cachet.Seal(key, nonce, more, text)
					if seal != api.OK {
						wantError(t, "P5: Seal"+of, got, e, seal)
					} else if len(got) != p+16 || e != api.OK {
						t.Errorf("P5: Seal%s = %x, %d, want %d bytes", of, got, e, p+16)
					}
				}
			}
		}
	}
}

func TestP6Example(t *testing.T) {
	sealed := unhex(t, "58e2fccefa7e3061367f1d57a4e7455a")
	got, e := cachet.Open(zeros, zeros[:12], "", changed(sealed, 15, 1))
	wantError(t, "P6: Open with another last byte", got, e, api.ErrTag)
	got, e = cachet.Open(zeros, zeros[:12], "", sealed[:15])
	wantError(t, "P6: Open of 15 bytes", got, e, api.ErrSize)
}

// TestP6P17Changed changes each bit of all that goes into Open.
func TestP6P17Changed(t *testing.T) {
	r := rand.New(rand.NewSource(17))
	for _, size := range []int{0, 1, 16, 37} {
		for _, nonceLen := range []int{1, 12, 16, 40} {
			given := [4]string{someText(r, 16), someText(r, nonceLen), someText(r, size), someText(r, size)}
			sealed, e := cachet.Seal(given[0], given[1], given[2], given[3])
			if e != api.OK {
				t.Fatalf("P5: Seal = %d", e)
			}
			given[3] = sealed
			for which, text := range given {
				for bit := range 8 * len(text) {
					turned := given
					turned[which] = changed(text, bit/8, 1<<(bit%8))
					got, e := cachet.Open(turned[0], turned[1], turned[2], turned[3])
					wantError(t, "P6, P17: Open with argument "+strconv.Itoa(which)+" changed", got, e, api.ErrTag)
				}
			}
		}
	}
}

// TestP6Moved: the same bytes in a row, parted at other places, are another message; so is a text with bytes 0 behind it.
func TestP6Moved(t *testing.T) {
	key, nonce, all := strings.Repeat("k", 32), "nonce", strings.Repeat("0123456789", 6)
	sealed, _ := cachet.Seal(key, nonce, all[:20], all[20:40])
	for _, c := range [][3]string{
		{nonce, all[:20] + sealed[:1], sealed[1:]},
		{nonce, all[:19], all[19:20] + sealed},
		{nonce, all[:20] + "\x00", sealed},
		{nonce, all[:20], sealed[:20] + "\x00" + sealed[20:]},
		{nonce, all[:20], sealed + "\x00"},
		{nonce, all[:20], sealed[1:]},
		{nonce, all[:20], sealed[:len(sealed)-1]},
		{nonce, all[:20], sealed[:16]},
		{nonce, "", sealed},
		{nonce + "\x00", all[:20], sealed},
		{nonce[:4], all[:20], sealed},
		{nonce + strings.Repeat("\x00", 7), all[:20], sealed},
		{nonce + strings.Repeat("\x00", 11), all[:20], sealed},
	} {
		got, e := cachet.Open(key, c[0], c[1], c[2])
		wantError(t, "P6: Open of what was moved", got, e, api.ErrTag)
	}
	got, e := cachet.Open(key[:24], nonce, all[:20], sealed)
	wantError(t, "P6: Open by a shorter key", got, e, api.ErrTag)
}

// TestP6Forged: a text with the tag's place filled by what an attacker may think of is refused.
func TestP6Forged(t *testing.T) {
	key := strings.Repeat("k", 16)
	sealed, _ := cachet.Seal(key, "n", "", "some plain text!")
	mask, _ := cachet.Encrypt(key, zeros)
	for _, tag := range []string{zeros, strings.Repeat("\xff", 16), sealed[:16], sealed[17:] + sealed[16:17], mask} {
		got, e := cachet.Open(key, "n", "", sealed[:16]+tag)
		wantError(t, "P6: Open of a forged tag", got, e, api.ErrTag)
	}
}

func TestP17RoundTrips(t *testing.T) {
	r := rand.New(rand.NewSource(1717))
	for range 500 {
		key, nonce, more, plain := someText(r, 16+8*r.Intn(3)), someText(r, 1+r.Intn(40)), someText(r, r.Intn(201)), someText(r, r.Intn(201))
		sealed, e := cachet.Seal(key, nonce, more, plain)
		if e != api.OK || len(sealed) != len(plain)+16 {
			t.Fatalf("P5: Seal = %x, %d", sealed, e)
		}
		got, e := cachet.Open(key, nonce, more, sealed)
		wantText(t, "P17: Open of what was sealed", got, e, plain)
		at := r.Intn(len(sealed))
		got, e = cachet.Open(key, nonce, more, changed(sealed, at, byte(1+r.Intn(255))))
		wantError(t, "P17: Open with byte "+strconv.Itoa(at)+" another", got, e, api.ErrTag)
	}
}
