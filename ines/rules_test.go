package ines_test

import (
	"bytes"
	"testing"

	"picklock/api"
	"picklock/ines"
)

// parsed is for a file that is right.
func parsed(t *testing.T, b []byte) ines.Cart {
	t.Helper()
	c, e := ines.Parse(b)
	if e != api.OK {
		t.Fatal(e)
	}
	return c
}

// built is for a cart of which there is a file.
func built(t *testing.T, c ines.Cart) []byte {
	t.Helper()
	b, e := ines.Build(c)
	if e != api.OK {
		t.Fatal(e)
	}
	return b
}

// clone is a cart that shares nothing with c.
func clone(c ines.Cart) ines.Cart {
	c.PRG, c.CHR = bytes.Clone(c.PRG), bytes.Clone(c.CHR)
	return c
}

// R1: a file that is parsed is neither changed nor kept, and the cart may be written over.
func TestParseOwn(t *testing.T) {
	for _, chr := range []byte{0, 2} {
		for _, first := range []byte{0, aheadBit} {
			b := append(file(2, chr, first, 0), 1, 2, 3)
			was, want := bytes.Clone(b), cartOf(2, int(chr))
			c, d := parsed(t, b), parsed(t, b)
			if !bytes.Equal(b, was) {
				t.Error("the file is changed")
			}
			clear(c.PRG)
			if !bytes.Equal(c.CHR, want.CHR) {
				t.Error("PRG and CHR share bytes")
			}
			for i := range c.CHR {
				c.CHR[i] = 0xEE
			}
			_, _ = append(c.PRG, 0xEE, 0xEE), append(c.CHR, 0xEE, 0xEE)
			if !bytes.Equal(b, was) || !sameCart(d, want) {
				t.Error("a cart that is written over changes others")
			}
			parses(t, b, want)
			clear(b)
			if !sameCart(d, want) {
				t.Error("a cart shares bytes with its file")
			}
		}
	}
}

// R1: a list of a cart that is written behind its end leaves the other one as it is.
func TestParseApart(t *testing.T) {
	c := parsed(t, file(1, 1, 0, 0))
	prg := append(c.PRG[:len(c.PRG):cap(c.PRG)], 0xEE, 0xEE, 0xEE)
	if !bytes.Equal(c.CHR, chrOf(1)) || len(prg) != prgUnit+3 {
		t.Error("CHR stands behind PRG in the same memory")
	}
}

// R1: what lies behind the bytes that are handed in is neither looked at nor changed.
func TestParseBehind(t *testing.T) {
	all := append(file(1, 1, 0, 0), chance(4, 100)...)
	was := bytes.Clone(all)
	n := len(all) - 100
	fails(t, all[:n-1], api.ErrShort)
	fails(t, all[:15], api.ErrShort)
	parses(t, all[:n], cartOf(1, 1))
	if !bytes.Equal(all, was) {
		t.Error("bytes are changed")
	}
}

// R1: a cart of which a file is built is neither changed nor kept, and the file may be written over.
func TestBuildOwn(t *testing.T) {
	for _, chr := range []int{0, 2} {
		c := cartOf(2, chr)
		c.Mapper, c.Mirror = 2, ines.Vertical
		was, want := clone(c), file(2, byte(chr), 0x21, 0)
		b, d := built(t, c), built(t, c)
		if !sameCart(c, was) {
			t.Error("the cart is changed")
		}
		clear(b)
		_ = append(b, 0xEE)
		if !sameCart(c, was) || !bytes.Equal(d, want) {
			t.Error("a file that is written over changes others")
		}
		builds(t, c, want)
		clear(c.PRG)
		clear(c.CHR)
		if !bytes.Equal(d, want) {
			t.Error("a file shares bytes with its cart")
		}
	}
}

// R1: PRG and CHR may lie in the same memory, and what lies behind them is neither looked at nor changed.
func TestBuildSameMemory(t *testing.T) {
	all := chance(6, 3*prgUnit)
	was := bytes.Clone(all)
	builds(t, ines.Cart{PRG: all[:prgUnit], CHR: all[100 : 100+chrUnit]}, join(head(1, 1, 0, 0), was[:prgUnit], was[100:100+chrUnit]))
	builds(t, ines.Cart{PRG: all[prgUnit:], CHR: all[:chrUnit]}, join(head(2, 1, 0, 0), was[prgUnit:], was[:chrUnit]))
	isNone(t, ines.Cart{PRG: all[:prgUnit-1], CHR: all[:chrUnit]})
	isNone(t, ines.Cart{PRG: all[:prgUnit], CHR: all[:chrUnit-1]})
	if !bytes.Equal(all, was) {
		t.Error("bytes are changed")
	}
}

// R4: of the same the same, again and again, whatever was asked between.
func TestAgain(t *testing.T) {
	b, ram := file(2, 1, 0x31, 0), file(1, 0, 0x10, 0)
	c, r := parsed(t, b), parsed(t, ram)
	for range 20 {
		fails(t, file(1, 1, 0x50, 0), api.ErrMapper)
		fails(t, b[:len(b)-1], api.ErrShort)
		isNone(t, ines.Cart{})
		parses(t, b, c)
		parses(t, ram, r)
		builds(t, c, b)
		builds(t, r, ram)
	}
}
