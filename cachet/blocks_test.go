package cachet_test

import (
	"crypto/aes"
	"crypto/cipher"
	"encoding/binary"
	"encoding/hex"
	"math/big"
	"math/rand"
	"strings"
	"testing"

	"cachet/api"
	"cachet/cachet"
)

// unhex makes a text of hexadecimal digits, with spaces between them as one likes.
func unhex(t *testing.T, digits string) string {
	t.Helper()
	b, err := hex.DecodeString(strings.ReplaceAll(digits, " ", ""))
	if err != nil {
		t.Fatal(err)
	}
	return string(b)
}

// someText makes the same texts in every run.
func someText(r *rand.Rand, length int) string {
	b := make([]byte, length)
	for i := range b {
		b[i] = byte(r.Intn(256))
	}
	return string(b)
}

func wantText(t *testing.T, call string, got string, e api.Errno, want string) {
	t.Helper()
	if got != want || e != api.OK {
		t.Errorf("%s = %x, %d, want %x", call, got, e, want)
	}
}

func wantError(t *testing.T, call string, got string, e api.Errno, want api.Errno) {
	t.Helper()
	if got != "" || e != want {
		t.Errorf("%s = %x, %d, want nothing and %d", call, got, e, want)
	}
}

const counting = "000102030405060708090a0b0c0d0e0f101112131415161718191a1b1c1d1e1f"

var zeros = strings.Repeat("\x00", 16)

func TestP3KnownValues(t *testing.T) {
	const (
		fips = "00112233445566778899aabbccddeeff"
		key1 = "2b7e151628aed2a6abf7158809cf4f3c"
		key2 = "8e73b0f7da0e6452c810f32b809079e562f8ead2522c6b7b"
		key3 = "603deb1015ca71be2b73aef0857d77811f352c073b6108d72d9810a30914dff4"
	)
	for _, c := range []struct{ key, block, want string }{
		{counting[:32], fips, "69c4e0d86a7b0430d8cdb78070b4c55a"},
		{counting[:48], fips, "dda97ca4864cdfe06eaf70a0ec0d7191"},
		{counting, fips, "8ea2b7ca516745bfeafc49904b496089"},
		{key1, "3243f6a8885a308d313198a2e0370734", "3925841d02dc09fbdc118597196a0b32"},
		{key1, "6bc1bee22e409f96e93d7e117393172a", "3ad77bb40d7a3660a89ecaf32466ef97"},
		{key2, "6bc1bee22e409f96e93d7e117393172a", "bd334f1d6e45f25ff712a214571fa5cc"},
		{key3, "6bc1bee22e409f96e93d7e117393172a", "f3eed1bdb5d2a03c064b5a7e3db181f8"},
	} {
		got, e := cachet.Encrypt(unhex(t, c.key), unhex(t, c.block))
		wantText(t, "P3: Encrypt("+c.key+", "+c.block+")", got, e, unhex(t, c.want))
	}
}

func TestP3AgainstTheLibrary(t *testing.T) {
	r := rand.New(rand.NewSource(3))
	for range 300 {
		for _, size := range []int{16, 24, 32} {
			key, block := someText(r, size), someText(r, 16)
			library, err := aes.NewCipher([]byte(key))
			if err != nil {
				t.Fatal(err)
			}
			want := make([]byte, 16)
			library.Encrypt(want, []byte(block))
			got, e := cachet.Encrypt(key, block)
			wantText(t, "P3: Encrypt("+hex.EncodeToString([]byte(key))+", "+hex.EncodeToString([]byte(block))+")", got, e, string(want))
		}
	}
}

// TestP3Lengths goes through all pairs of lengths, so that ErrKey is seen to be named ahead of ErrSize.
func TestP3Lengths(t *testing.T) {
	keys := map[int]bool{16: true, 24: true, 32: true}
	for k := range 70 {
		for b := range 40 {
			got, e := cachet.Encrypt(strings.Repeat("k", k), strings.Repeat("b", b))
			switch {
			case !keys[k]:
				wantError(t, "P3: Encrypt of a wrong key", got, e, api.ErrKey)
			case b != 16:
				wantError(t, "P3: Encrypt of a wrong block", got, e, api.ErrSize)
			case len(got) != 16 || e != api.OK:
				t.Errorf("P3: Encrypt by a key of %d bytes = %x, %d, want a block", k, got, e)
			}
		}
	}
}

// TestP3Bytes: bytes are not runes: texts that are no UTF-8 count by their bytes.
func TestP3Bytes(t *testing.T) {
	got, e := cachet.Encrypt(strings.Repeat("é", 16), strings.Repeat("b", 16))
	if len(got) != 16 || e != api.OK {
		t.Errorf("P3: Encrypt by 32 bytes in 16 runes = %x, %d, want a block", got, e)
	}
	got, e = cachet.Encrypt(strings.Repeat("k", 16), strings.Repeat("é", 16))
	wantError(t, "P3: Encrypt of 16 runes in 32 bytes", got, e, api.ErrSize)
	got, e = cachet.Encrypt(strings.Repeat("\xff", 16), strings.Repeat("\xff", 16))
	if len(got) != 16 || e != api.OK {
		t.Errorf("P3: Encrypt of bytes ff = %x, %d, want a block", got, e)
	}
}

func TestP4KnownValues(t *testing.T) {
	zero := strings.Repeat("00", 15)
	one, x, x127 := "80"+zero, "40"+zero, zero+"01"
	for _, c := range []struct{ h, s, want string }{
		{one, "", "00" + zero},
		{counting[:32], "", "00" + zero},
		{one, counting[:32], counting[:32]},
		{counting[:32], one, counting[:32]},
		{"00" + zero, counting, "00" + zero},
		{x, one, x},
		{x, x127, "e1" + zero},
		{x127, x, "e1" + zero},
		{"01" + zero, "01" + zero, "0002" + zero[2:]},
		{x, one + one, "60" + zero},
		{one, counting, "10101010101010101010101010101010"},
		{"66e94bd4ef8a2c3b884cfa59ca342b2e", "0388dace60b6a392f328c2b971b2fe78 00000000000000000000000000000080", "f38cbb1ad69223dcc3457ae5b6b0f885"},
	} {
		got, e := cachet.Hash(unhex(t, c.h), unhex(t, c.s))
		wantText(t, "P4: Hash("+c.h+", "+c.s+")", got, e, unhex(t, c.want))
	}
}

// number reads a block as a polynomial whose coefficient of x^i is bit i.
func number(block string) *big.Int {
	n := new(big.Int)
	for i := range 128 {
		n.SetBit(n, i, uint(block[i/8]>>(7-i%8))&1)
	}
	return n
}

func blockOf(n *big.Int) string {
	var b [16]byte
	for i := range 128 {
		b[i/8] |= byte(n.Bit(i)) << (7 - i%8)
	}
	return string(b[:])
}

// product multiplies in full and divides afterwards: another way than the program's.
func product(p, q *big.Int) *big.Int {
	sum := new(big.Int)
	for i := range 128 {
		if p.Bit(i) == 1 {
			sum.Xor(sum, new(big.Int).Lsh(q, uint(i)))
		}
	}
	modulus := new(big.Int).SetBit(big.NewInt(0x87), 128, 1)
	for sum.BitLen() > 128 {
		sum.Xor(sum, new(big.Int).Lsh(modulus, uint(sum.BitLen()-129)))
	}
	return sum
}

func slowHash(h, s string) string {
	sum := new(big.Int)
	for i := 0; i < len(s); i += 16 {
		sum = product(new(big.Int).Xor(sum, number(s[i:i+16])), number(h))
	}
	return blockOf(sum)
}

func TestP4AgainstSlowProducts(t *testing.T) {
	r := rand.New(rand.NewSource(4))
	for count := range 40 {
		h, s := someText(r, 16), someText(r, 16*count)
		got, e := cachet.Hash(h, s)
		wantText(t, "P4: Hash of some blocks", got, e, slowHash(h, s))
	}
}

// TestP4AllPowers multiplies each power of x by each other one.
func TestP4AllPowers(t *testing.T) {
	power := func(i int) string {
		return blockOf(new(big.Int).SetBit(new(big.Int), i, 1))
	}
	for i := range 128 {
		for j := range 128 {
			got, e := cachet.Hash(power(i), power(j))
			wantText(t, "P4: Hash of a power of x by another", got, e, slowHash(power(i), power(j)))
		}
	}
}

// TestP4Lengths goes through all pairs of lengths, so that ErrKey is seen to be named ahead of ErrSize.
func TestP4Lengths(t *testing.T) {
	for h := range 40 {
		for s := range 70 {
			got, e := cachet.Hash(strings.Repeat("h", h), strings.Repeat("s", s))
			switch {
			case h != 16:
				wantError(t, "P4: Hash by no block", got, e, api.ErrKey)
			case s%16 != 0:
				wantError(t, "P4: Hash of no whole blocks", got, e, api.ErrSize)
			case len(got) != 16 || e != api.OK:
				t.Errorf("P4: Hash of %d bytes = %x, %d, want a block", s, got, e)
			}
		}
	}
}

// TestP3P4AgainstTheLibrary makes the library's tags of the two calls, with nothing to seal.
func TestP3P4AgainstTheLibrary(t *testing.T) {
	r := rand.New(rand.NewSource(34))
	for count := range 20 {
		key, nonce, more := someText(r, 16+8*(count%3)), someText(r, 12), someText(r, 16*count)
		library, err := aes.NewCipher([]byte(key))
		if err != nil {
			t.Fatal(err)
		}
		mode, err := cipher.NewGCM(library)
		if err != nil {
			t.Fatal(err)
		}
		want := mode.Seal(nil, []byte(nonce), nil, []byte(more))
		h, _ := cachet.Encrypt(key, zeros)
		first, _ := cachet.Encrypt(key, nonce+"\x00\x00\x00\x01")
		lengths := binary.BigEndian.AppendUint64(nil, uint64(8*len(more)))
		hash, e := cachet.Hash(h, more+string(lengths)+zeros[:8])
		if len(first) != 16 || len(hash) != 16 || e != api.OK {
			t.Fatalf("P3, P4: %x, and %x, %d, want blocks", first, hash, e)
		}
		tag := make([]byte, 16)
		for i := range tag {
			tag[i] = first[i] ^ hash[i]
		}
		wantText(t, "P3, P4: a tag", string(tag), e, string(want))
	}
}
