// Package cachet: messages that are sealed, and handles that never use a nonce twice: see DOC.md.
package cachet

import (
	"cachet/aes"
	"cachet/api"
	"cachet/blocks"
	"cachet/gcm"
	"cachet/records"
)

// Encrypt tells a block under a key (P3).
func Encrypt(key string, block string) (string, api.Errno) {
	cipher, ok := aes.New(key)
	if !ok {
		return "", api.ErrKey
	}
	b, ok := blocks.Of(block)
	if !ok {
		return "", api.ErrSize
	}
	return cipher.Encrypt(b).Text(), api.OK
}

// Hash tells the hash of blocks (P4).
func Hash(h string, s string) (string, api.Errno) {
	by, ok := blocks.Of(h)
	if !ok {
		return "", api.ErrKey
	}
	sum, ok := blocks.Hash(by, s)
	if !ok {
		return "", api.ErrSize
	}
	return sum.Text(), api.OK
}

// Seal seals a text (P5).
func Seal(key string, nonce string, more string, plain string) (string, api.Errno) {
	mode, e := ready(key, nonce)
	if e != api.OK {
		return "", e
	}
	if len(more) > api.MaxText || len(plain) > api.MaxText {
		return "", api.ErrLong
	}
	body, tag := mode.Seal(nonce, more, plain)
	return body + tag.Text(), api.OK
}

// Open opens what was sealed (P6).
func Open(key string, nonce string, more string, sealed string) (string, api.Errno) {
	mode, e := ready(key, nonce)
	if e != api.OK {
		return "", e
	}
	if len(more) > api.MaxText || len(sealed) > api.MaxText+api.Block {
		return "", api.ErrLong
	}
	end := len(sealed) - api.Block
	if end < 0 {
		return "", api.ErrSize
	}
	tag, _ := blocks.Of(sealed[end:])
	plain, ok := mode.Open(nonce, more, sealed[:end], tag)
	if !ok {
		return "", api.ErrTag
	}
	return plain, api.OK
}

// ready makes a key ready for a nonce: the errors that Seal and Open name first are the same.
func ready(key string, nonce string) (*gcm.Mode, api.Errno) {
	mode, ok := gcm.New(key)
	if !ok {
		return nil, api.ErrKey
	}
	if len(nonce) < 1 || len(nonce) > api.MaxNonce {
		return nil, api.ErrNonce
	}
	return mode, api.OK
}

// Encode tells a record as bytes (P7).
func Encode(r api.Record) (string, api.Errno) {
	s, ok := records.Encode(r)
	if !ok {
		return "", api.ErrArg
	}
	return s, api.OK
}

// Parse tells the record that some bytes are, or where they are wrong (P8).
func Parse(s string) (api.Record, int, api.Errno) {
	r, place, ok := records.Parse(s)
	if !ok {
		return api.Record{}, place, api.ErrForm
	}
	return r, 0, api.OK
}
