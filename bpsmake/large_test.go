package bpsmake_test

import (
	"bytes"
	"testing"

	"picklock/api"
	"picklock/bps"
	"picklock/bpsmake"
)

// isLarge is for those of which no patch can be made.
func isLarge(t *testing.T, a, b, meta []byte) {
	t.Helper()
	if p, e := bpsmake.Create(a, b, meta); len(p) != 0 || e != api.ErrLarge {
		t.Errorf("%d and %d bytes, and %d: %d bytes, %v", len(a), len(b), len(meta), len(p), e)
	}
}

// H1: ErrLarge and nothing else of more than 2^24 bytes, and of a meta of more than 1048576.
func TestLarge(t *testing.T) {
	big := make([]byte, most+1)
	for _, x := range []struct{ a, b, meta []byte }{
		{big, nil, nil}, {nil, big, nil}, {big, big, nil}, {big[:most], big, nil}, {big, big[:most], nil}, {big, []byte("abc"), []byte("me")},
		{nil, nil, big[:mostMeta+1]}, {[]byte("abc"), []byte("abc"), big[:mostMeta+1]}, {nil, nil, big}, {big, big, big}, {nil, big, big[:mostMeta]},
	} {
		isLarge(t, x.a, x.b, x.meta)
	}
}

// H1: just 2^24 bytes, and a meta of just 1048576, are not too many.
func TestJustNotLarge(t *testing.T) {
	zeros := make([]byte, most)
	meta := chance(1, mostMeta, 0, 256)
	holds(t, zeros, nil, meta)
	holds(t, nil, zeros, meta)
	holds(t, zeros, zeros, meta)
	holds(t, nil, nil, meta)
	holds(t, []byte("abc"), []byte("XabcY"), meta)
	holds(t, zeros, join(zeros[1:], []byte("X")), nil)
	holds(t, zeros, join([]byte("X"), zeros[1:]), nil)
	holds(t, chance(1, most, 0, 2), []byte{0, 0, 1, 1, 0, 1, 0, 1, 1, 1}, nil)
}

// H1: ErrLarge and nothing else, if the patch would have more than 2^24 bytes: of bytes that look like chance, which no patch tells by fewer. The longest ones that fit, by one FromPatch, are not too many.
func TestPatchLarge(t *testing.T) {
	b := chance(1, most, 0, 256)
	// Ahead of the bytes there are `BPS1`, numbers of 1, 4 and 1 bytes, and the action's of 4; behind them the sums.
	fits := most - 4 - 6 - 4 - 12
	isLarge(t, nil, b[:fits+1], nil)
	if p, _ := holds(t, nil, b[:fits], nil); len(p) > most {
		t.Errorf("%d bytes", len(p))
	}
	// The number of the meta's bytes has 3, and so has that of a's.
	meta := b[:mostMeta]
	a := chance(2, 20000, 0, 256)
	isLarge(t, a, b[:fits-mostMeta-4+1], meta)
	holds(t, a, b[:fits-mostMeta-4], meta)
}

// H1: what is the same as in a is taken from there, so that of much that is changed the patch is not too large.
func TestPatchFits(t *testing.T) {
	a := chance(3, most, 0, 256)
	b := bytes.Clone(a)
	for i := 0; i < len(b); i += 9 {
		b[i] ^= 0x55
	}
	p := created(t, a, b, nil)
	if out, e := bps.Apply(p, a); !bytes.Equal(out, b) || e != api.OK {
		t.Errorf("%d bytes, %v", len(out), e)
	}
}
