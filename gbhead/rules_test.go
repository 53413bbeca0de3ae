package gbhead_test

import (
	"bytes"
	"testing"

	"picklock/api"
	"picklock/gbhead"
)

// parsed is for a file that is right.
func parsed(t *testing.T, b []byte) gbhead.Cart {
	t.Helper()
	c, e := gbhead.Parse(b)
	if e != api.OK {
		t.Fatal(e)
	}
	return c
}

// R1: a file that is parsed is neither changed nor kept, and the cart may be written over.
func TestParseOwn(t *testing.T) {
	for _, behind := range []int{0, 300} {
		b := append(file(2*least, 0x1B, 1, 3), chance(5, behind)...)
		was := bytes.Clone(b)
		want := gbhead.Cart{Kind: gbhead.MBC5, ROM: was[:2*least], RAM: 32768}
		c, d := parsed(t, b), parsed(t, b)
		if !bytes.Equal(b, was) {
			t.Error("the file is changed")
		}
		clear(c.ROM)
		_ = append(c.ROM, 0xEE, 0xEE)
		if !bytes.Equal(b, was) || !sameCart(d, want) {
			t.Error("a cart that is written over changes others")
		}
		parses(t, b, want)
		clear(b)
		if !sameCart(d, want) {
			t.Error("a cart shares bytes with its file")
		}
	}
}

// R1: a file that is not right is left as it is, too.
func TestParseOwnFails(t *testing.T) {
	for _, x := range []struct {
		b []byte
		e api.Errno
	}{
		{file(least, 0x04, 0, 0), api.ErrMapper},
		{file(least, 0x01, 9, 0), api.ErrForm},
		{file(least, 0x01, 1, 0), api.ErrShort},
		{with(file(least, 0x01, 0, 0), sumAt-1, 0xA7), api.ErrSum},
		{chance(1, most+1), api.ErrLarge},
	} {
		was := bytes.Clone(x.b)
		fails(t, x.b, x.e)
		if !bytes.Equal(x.b, was) {
			t.Errorf("%v: the file is changed", x.e)
		}
	}
}

// R1: what lies behind the bytes that are handed in is neither looked at nor changed.
func TestParseBehind(t *testing.T) {
	all := file(2*least, 0x13, 1, 2)
	was := bytes.Clone(all)
	fails(t, all[:2*least-1], api.ErrShort)
	fails(t, all[:least], api.ErrShort)
	fails(t, all[:least-1], api.ErrShort)
	if !bytes.Equal(all, was) {
		t.Error("bytes are changed")
	}
	all = file(2*least, 0x13, 0, 2)
	was = bytes.Clone(all)
	c := parsed(t, all[:least])
	_ = append(c.ROM, 0xEE, 0xEE, 0xEE)
	if !bytes.Equal(all, was) {
		t.Error("a cart that is written behind its end changes its file")
	}
}

// R1: what is signed is neither changed nor kept, and the copy may be written over.
func TestSignOwn(t *testing.T) {
	for _, n := range []int{headBytes, least, least + 300} {
		all := chance(6, n+100)
		b := all[:n]
		sum := sumOf(b)
		b[sumAt] = sum + 1
		was := bytes.Clone(all)
		got, other := gbhead.Sign(b), gbhead.Sign(b)
		if !bytes.Equal(all, was) {
			t.Error("what is signed is changed")
		}
		clear(got)
		_ = append(got, 0xEE, 0xEE)
		if !bytes.Equal(all, was) || !bytes.Equal(other, with(was[:n], sumAt, sum)) {
			t.Error("a copy that is written over changes others")
		}
		clear(all)
		if !bytes.Equal(other, with(was[:n], sumAt, sum)) {
			t.Error("a copy shares bytes with what was signed")
		}
	}
}

// R1: what has the right sum already is copied, too.
func TestSignOwnSigned(t *testing.T) {
	b := gbhead.Sign(chance(7, least))
	was := bytes.Clone(b)
	got := signs(t, b, b[sumAt])
	clear(got)
	if !bytes.Equal(b, was) {
		t.Error("what is signed is its own copy")
	}
}

// R1: what lies behind the bytes that are signed is neither looked at nor changed.
func TestSignBehind(t *testing.T) {
	all := chance(8, least)
	was := bytes.Clone(all)
	for n := range headBytes {
		if got := gbhead.Sign(all[:n]); len(got) != 0 {
			t.Errorf("%d bytes of %d", len(got), n)
		}
	}
	signs(t, all[:headBytes], sumOf(all))
	if !bytes.Equal(all, was) {
		t.Error("bytes are changed")
	}
}

// R4: of the same the same, again and again, whatever was asked between.
func TestAgain(t *testing.T) {
	b, unsigned := file(least, 0x1C, 0, 4), chance(9, 0x200)
	c, sum := parsed(t, b), sumOf(unsigned)
	for range 20 {
		fails(t, file(least, 0x04, 0, 0), api.ErrMapper)
		fails(t, file(least, 0x01, 9, 0), api.ErrForm)
		fails(t, b[:least-1], api.ErrShort)
		parses(t, b, c)
		parses(t, file(2*least, 0x03, 1, 0), gbhead.Cart{Kind: gbhead.MBC1, ROM: file(2*least, 0x03, 1, 0)})
		signs(t, unsigned, sum)
		gbhead.Sign(nil)
	}
}
