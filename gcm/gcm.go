// Package gcm: sealing and opening, as NIST SP 800-38D tells it, with tags of a whole block.
package gcm

import (
	"strings"

	"cachet/aes"
	"cachet/api"
	"cachet/blocks"
	"cachet/numbers"
)

// Mode is a key made ready, with the block by which it hashes.
type Mode struct {
	cipher *aes.Cipher
	h      blocks.Block
}

// New makes a key ready, and tells whether it is one.
func New(key string) (*Mode, bool) {
	cipher, ok := aes.New(key)
	if !ok {
		return nil, false
	}
	return &Mode{cipher, cipher.Encrypt(blocks.Block{})}, true
}

// Seal tells the body and the tag of a plain text.
func (m *Mode) Seal(nonce string, more string, plain string) (string, blocks.Block) {
	first := m.first(nonce)
	body := m.crossed(first, plain)
	return body, m.tag(first, more, body)
}

// Open tells the plain text of a body, and whether the tag is the body's.
func (m *Mode) Open(nonce string, more string, body string, tag blocks.Block) (string, bool) {
	first := m.first(nonce)
	if m.tag(first, more, body) != tag {
		return "", false
	}
	return m.crossed(first, body), true
}

// first tells the block from which a nonce's blocks are counted.
func (m *Mode) first(nonce string) blocks.Block {
	if len(nonce) != api.NonceLen {
		return m.hash("", nonce)
	}
	var b blocks.Block
	copy(b[:], nonce)
	numbers.Put(b[api.NonceLen:], 1)
	return b
}

// crossed xors a text with the blocks behind the first; done twice, it gives the text back.
func (m *Mode) crossed(first blocks.Block, text string) string {
	out := []byte(text)
	count, mask := first, blocks.Block{}
	for i := range out {
		at := i % len(mask)
		if at == 0 {
			count = next(count)
			mask = m.cipher.Encrypt(count)
		}
		out[i] ^= mask[at]
	}
	return string(out)
}

// next leaves all but the last four bytes as they are, even when these come round to 0.
func next(b blocks.Block) blocks.Block {
	last := b[api.NonceLen:]
	numbers.Put(last, numbers.Of(last)+1)
	return b
}

func (m *Mode) tag(first blocks.Block, more string, body string) blocks.Block {
	return m.cipher.Encrypt(first).Xor(m.hash(more, body))
}

// hash binds two texts and their lengths in bits, so that no byte may pass from one to the other unseen.
func (m *Mode) hash(more string, text string) blocks.Block {
	var lengths blocks.Block
	half := len(lengths) / 2
	numbers.Put(lengths[:half], uint64(8*len(more)))
	numbers.Put(lengths[half:], uint64(8*len(text)))
	sum, _ := blocks.Hash(m.h, padded(more)+padded(text)+lengths.Text())
	return sum
}

func padded(text string) string {
	over := len(text) % api.Block
	if over == 0 {
		return text
	}
	return text + strings.Repeat("\x00", api.Block-over)
}
