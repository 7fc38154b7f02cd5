// Package blocks: blocks, their products, and the hash that is made of these.
package blocks

import "cachet/api"

// Block is an array, so that blocks are compared by == and handed on as values.
type Block [api.Block]byte

// Of tells the block that a text is, and whether it is one.
func Of(text string) (Block, bool) {
	var b Block
	if len(text) != len(b) {
		return b, false
	}
	copy(b[:], text)
	return b, true
}

// Text tells the block's bytes.
func (b Block) Text() string {
	return string(b[:])
}

// Xor tells the two blocks xored byte by byte.
func (b Block) Xor(other Block) Block {
	for i := range b {
		b[i] ^= other[i]
	}
	return b
}
