package gcm

import (
	"strings"
	"testing"

	"cachet/blocks"
)

func TestPadded(t *testing.T) {
	for n := range 70 {
		text := strings.Repeat("p", n)
		got := padded(text)
		behind := strings.TrimPrefix(got, text)
		if len(got)%16 != 0 || len(behind) > 15 || strings.Trim(behind, "\x00") != "" {
			t.Errorf("%d bytes padded are %q", n, got)
		}
	}
}

func TestNextComesRound(t *testing.T) {
	for _, c := range [][2]string{
		{"............\x00\x00\x00\x00", "............\x00\x00\x00\x01"},
		{"............\x00\x00\x00\xff", "............\x00\x00\x01\x00"},
		{"............\xff\xff\xff\xff", "............\x00\x00\x00\x00"},
		{strings.Repeat("\xff", 16), strings.Repeat("\xff", 12) + "\x00\x00\x00\x00"},
	} {
		b, _ := blocks.Of(c[0])
		if got := next(b).Text(); got != c[1] {
			t.Errorf("behind %x comes %x, want %x", c[0], got, c[1])
		}
		if b.Text() != c[0] {
			t.Errorf("%x has become %x", c[0], b)
		}
	}
}

func TestNewOfNoKey(t *testing.T) {
	for _, n := range []int{0, 15, 17, 33} {
		if m, ok := New(strings.Repeat("k", n)); m != nil || ok {
			t.Errorf("New of %d bytes is a mode", n)
		}
	}
}

// TestModeKeepsNothing seals the same with one mode again and again, with other things between.
func TestModeKeepsNothing(t *testing.T) {
	m, _ := New(strings.Repeat("k", 24))
	body, tag := m.Seal("nonce", "more", "plain")
	for n := range 41 {
		text := strings.Repeat("t", n)
		m.Seal(text, text, text)
		m.Open(text, text, text, tag)
		if b, g := m.Seal("nonce", "more", "plain"); b != body || g != tag {
			t.Errorf("behind %d bytes: %x, %x, want %x, %x", n, b, g, body, tag)
		}
	}
}
