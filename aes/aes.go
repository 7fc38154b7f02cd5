package aes

import (
	"math/bits"

	"cachet/blocks"
)

// substitution is FIPS 197's S-box.
type substitution [256]byte

// Cipher is a key made ready, so that many blocks under one key cost one schedule.
type Cipher struct {
	rounds int
	keys   [maxRounds + 1]blocks.Block
	box    substitution
}

// New makes a key ready, and tells whether it is one.
func New(key string) (*Cipher, bool) {
	alg := Alg(key)
	if alg == 0 {
		return nil, false
	}
	rounds, _ := Sizes(alg)
	box := newSubstitution()
	return &Cipher{rounds, schedule(key, rounds, box), box}, true
}

// Encrypt tells E(key, b).
func (c *Cipher) Encrypt(b blocks.Block) blocks.Block {
	b = b.Xor(c.keys[0])
	for i := 1; i < c.rounds; i++ {
		b = mixed(shifted(c.box.block(b))).Xor(c.keys[i])
	}
	return shifted(c.box.block(b)).Xor(c.keys[c.rounds])
}

// double multiplies by x modulo x^8 + x^4 + x^3 + x + 1.
func double(b byte) byte {
	return (b << 1) ^ (b>>7)*0x1b
}

// newSubstitution makes the table by its rule, since it is too long to be written out: the powers of x + 1 are all bytes but 0, and come round after 255.
func newSubstitution() substitution {
	var powers [255]byte
	power := byte(1)
	for i := range powers {
		powers[i] = power
		power ^= double(power)
	}
	box := substitution{0: spread(0)}
	for i, p := range powers {
		inverse := powers[(len(powers)-i)%len(powers)]
		box[p] = spread(inverse)
	}
	return box
}

// spread is the S-box's second half: without it 0 and 1 would stand for themselves.
func spread(b byte) byte {
	sum := byte(0x63)
	for i := range 5 {
		sum ^= bits.RotateLeft8(b, i)
	}
	return sum
}

func (s *substitution) word(w [word]byte) [word]byte {
	for i := range w {
		w[i] = s[w[i]]
	}
	return w
}

func (s *substitution) block(b blocks.Block) blocks.Block {
	for i := range b {
		b[i] = s[b[i]]
	}
	return b
}

// shifted moves row r to the left by r columns; a block lies in its square column by column.
func shifted(b blocks.Block) blocks.Block {
	var out blocks.Block
	for i := range out {
		row := i % word
		out[i] = b[(i+row*word)%len(b)]
	}
	return out
}

// mixed multiplies each column by 2, 3, 1, 1 and their turns; 2a + 3b + c + d is taken as 2(a + b) and all four without a, which needs no product but double.
func mixed(b blocks.Block) blocks.Block {
	var out blocks.Block
	for at := 0; at < len(b); at += word {
		sum := b[at] ^ b[at+1] ^ b[at+2] ^ b[at+3]
		for i := range word {
			own, next := b[at+i], b[at+(i+1)%word]
			out[at+i] = own ^ sum ^ double(own^next)
		}
	}
	return out
}
