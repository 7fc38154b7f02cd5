// Package aes: E(key, block), as FIPS 197 tells it.
package aes

import (
	"cachet/api"
	"cachet/blocks"
)

const (
	algs      = 3  // they are numbered from 1
	word      = 4  // bytes that the key schedule makes at once
	maxRounds = 14 // of the greatest alg
)

// Sizes tells how many rounds and how many bytes a key of that alg has; 0 and 0, if there is no such alg.
func Sizes(alg int) (rounds int, size int) {
	switch alg {
	case 3:
		rounds += 2
		size += 8
		fallthrough
	case 2:
		rounds += 2
		size += 8
		fallthrough
	case 1:
		rounds += 10
		size += 16
	}
	return rounds, size
}

// Alg tells a key's alg; 0, if the text is no key.
func Alg(key string) int {
	for alg := 1; alg <= algs; alg++ {
		if _, size := Sizes(alg); size == len(key) {
			return alg
		}
	}
	return 0
}

// schedule tells one block for each round, and one for what goes ahead of the first.
func schedule(key string, rounds int, box substitution) [maxRounds + 1]blocks.Block {
	var run [(maxRounds + 1) * api.Block]byte
	size := copy(run[:], key)
	constant := byte(1)
	for at := size; at < (rounds+1)*api.Block; at += word {
		last := [word]byte(run[at-word : at])
		switch {
		case at%size == 0:
			last = box.word([word]byte{last[1], last[2], last[3], last[0]})
			last[0] ^= constant
			constant = double(constant)
		case size == 32 && at%size == 16: // only the longest keys have words between two constants replaced too
			last = box.word(last)
		}
		for i := range last {
			run[at+i] = run[at-size+i] ^ last[i]
		}
	}
	var keys [maxRounds + 1]blocks.Block
	for i := range keys {
		copy(keys[i][:], run[i*api.Block:])
	}
	return keys
}
