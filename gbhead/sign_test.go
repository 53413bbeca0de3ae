package gbhead_test

import (
	"bytes"
	"testing"

	"picklock/api"
	"picklock/gbhead"
)

// J2: the chapter's example, and heads whose sums are as easily told.
func TestSignExamples(t *testing.T) {
	signs(t, make([]byte, headBytes), 0xE7)
	signs(t, bytes.Repeat([]byte{0xFF}, headBytes), 0x00)
	signs(t, bytes.Repeat([]byte{0x01}, headBytes), 0xCE)
	titled := make([]byte, headBytes)
	copy(titled[0x134:], "A TITLE")
	signs(t, titled, 0x04)
}

// J2: the byte at 14D is the head's sum, whatever it was, and no other one differs from b's, however many there are.
func TestSign(t *testing.T) {
	for _, n := range []int{headBytes, headBytes + 1, 0x150, 1000, least - 1, least, least + 1, 3 * least, 1 << 20} {
		for seed := range 5 {
			b := chance(seed, n)
			for _, was := range []byte{0, 1, sumOf(b), 0xFF} {
				b[sumAt] = was
				signs(t, b, sumOf(b))
			}
		}
	}
}

// J2: each byte from 134 to 14C makes the sum less by what it is, and no other byte does.
func TestSignSummed(t *testing.T) {
	b := summed(chance(7, 0x200))
	sum := b[sumAt]
	for at := range b {
		for x := range 256 {
			if at >= 0x134 && at <= 0x14C {
				signs(t, with(b, at, byte(x)), sum+b[at]-byte(x))
			} else {
				signs(t, with(b, at, byte(x)), sum)
			}
		}
	}
}

// J2: what is signed again is the same.
func TestSignAgain(t *testing.T) {
	for seed := range 50 {
		for _, n := range []int{headBytes, 0x180, least} {
			b := gbhead.Sign(chance(seed, n))
			signs(t, b, b[sumAt])
		}
	}
}

// J2: below 14E bytes there is none.
func TestSignShort(t *testing.T) {
	if got := gbhead.Sign(nil); len(got) != 0 {
		t.Errorf("none: %d bytes", len(got))
	}
	for _, b := range [][]byte{make([]byte, headBytes), chance(1, headBytes), bytes.Repeat([]byte{0xFF}, headBytes)} {
		for n := range headBytes {
			if got := gbhead.Sign(b[:n]); len(got) != 0 {
				t.Errorf("%d bytes: %d bytes", n, len(got))
			}
		}
		signs(t, b, sumOf(b))
	}
}

// J2: of a file that is too large for Parse there is a copy, too.
func TestSignLarge(t *testing.T) {
	b := chance(8, most+5000)
	for _, n := range []int{most - 1, most, most + 1, most + 5000} {
		signs(t, b[:n], sumOf(b))
	}
}

// What follows: what was signed has the right sum, be it any one; Parse tells no ErrSum of it.
func TestSignedParses(t *testing.T) {
	b := file(least, 0x01, 0, 3)
	for x := range 256 {
		b[0x140] = byte(x)
		for _, wrong := range []byte{1, 0x80, 0xFF} {
			b[sumAt] = sumOf(b) + wrong
			fails(t, b, api.ErrSum)
			signed := gbhead.Sign(b)
			parses(t, signed, gbhead.Cart{Kind: gbhead.MBC1, ROM: signed, RAM: 32768})
		}
	}
	large := chance(9, most)
	large[typeAt], large[romAt], large[ramAt] = 0x11, 8, 0
	signed := gbhead.Sign(large)
	parses(t, signed, gbhead.Cart{Kind: gbhead.MBC3, ROM: signed[:least<<8]})
}

// What follows: of a signed file that has another fault that one is told, and never ErrSum.
func TestSignedFails(t *testing.T) {
	for seed := range 300 {
		b := chance(seed, least)
		want := api.OK
		switch _, known := kinds()[b[typeAt]]; {
		case !known:
			want = api.ErrMapper
		case b[romAt] > 8 || b[ramAt] > 5:
			want = api.ErrForm
		default:
			continue
		}
		fails(t, gbhead.Sign(b), want)
	}
	fails(t, gbhead.Sign(file(least, 1, 9, 0)), api.ErrForm)
	fails(t, gbhead.Sign(file(least, 1, 0, 6)), api.ErrForm)
	fails(t, gbhead.Sign(file(least, 1, 1, 0)), api.ErrShort)
	fails(t, gbhead.Sign(chance(1, least-1)), api.ErrShort)
	fails(t, gbhead.Sign(chance(1, most+1)), api.ErrLarge)
}
