package blocks

import "cachet/api"

// poly is a block as a polynomial: the highest bit of high is the coefficient of x^0, the lowest bit of low that of x^127.
type poly struct {
	high, low uint64
}

// folded is what x^128 is modulo x^128 + x^7 + x^2 + x + 1, as the high half of a poly.
const folded = 0xe1 << 56

// half is how many bytes of a block each of a poly's numbers holds.
const half = api.Block / 2

func polyOf(b Block) poly {
	var p poly
	for i := range half {
		p.high = p.high<<8 | uint64(b[i])
		p.low = p.low<<8 | uint64(b[half+i])
	}
	return p
}

func (p poly) block() Block {
	var b Block
	for i := half - 1; i >= 0; i-- {
		b[i], b[half+i] = byte(p.high), byte(p.low)
		p.high >>= 8
		p.low >>= 8
	}
	return b
}

func (p poly) plus(q poly) poly {
	return poly{p.high ^ q.high, p.low ^ q.low}
}

// timesX shifts to the right, since the powers of x grow from the highest bit to the lowest.
func (p poly) timesX() poly {
	q := poly{p.high >> 1, p.high<<63 | p.low>>1}
	if p.low&1 == 1 {
		q.high ^= folded
	}
	return q
}

func (p poly) times(q poly) poly {
	var sum poly
	for _, bits := range [2]uint64{p.high, p.low} {
		for i := 63; i >= 0; i-- {
			if bits>>i&1 == 1 {
				sum = sum.plus(q)
			}
			q = q.timesX()
		}
	}
	return sum
}

// Times tells the product of the two blocks.
func (b Block) Times(other Block) Block {
	return polyOf(b).times(polyOf(other)).block()
}

// Hash tells the hash by h of a text, and whether the text is made of whole blocks.
func Hash(h Block, text string) (Block, bool) {
	var sum Block
	if len(text)%len(sum) != 0 {
		return sum, false
	}
	for ; text != ""; text = text[len(sum):] {
		next, _ := Of(text[:len(sum)])
		sum = sum.Xor(next).Times(h)
	}
	return sum, true
}
