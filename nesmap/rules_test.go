package nesmap_test

import (
	"bytes"
	"testing"

	"picklock/ines"
	"picklock/nesmap"
)

// played does to a map what a seed says, and tells all looks between.
func played(t *testing.T, m *nesmap.Map, seed int) []look {
	t.Helper()
	script := chance(seed, 4*300)
	var out []look
	for i := 0; i < len(script); i += 4 {
		// Most v are below 128, so that Mapper 1 comes to whole numbers.
		m.Write(uint16(script[i])<<8|uint16(script[i+1])|0x8000, script[i+2]&(0x7F|script[i+3]<<7))
		for range script[i+3] % 3 {
			m.Clock()
		}
		out = append(out, lookAt(t, m))
	}
	return out
}

func sameLooks(a, b []look) bool {
	for i := range a {
		if a[i] != b[i] {
			return false
		}
	}
	return len(a) == len(b)
}

// R1: a cart is neither changed nor kept: who owns it may write over it.
func TestOwn(t *testing.T) {
	for mapper := range mappers {
		c := cart(mapper, 3, 3)
		copy(c.PRG, chance(1, len(c.PRG)))
		copy(c.CHR, chance(2, len(c.CHR)))
		prg, chr := bytes.Clone(c.PRG), bytes.Clone(c.CHR)
		want := played(t, made(t, mapper, 3, 3), mapper)
		m := mapOf(t, c)
		played(t, mapOf(t, c), mapper+50)
		if c.Mapper != mapper || c.Mirror != ines.Vertical || c.RAM || !bytes.Equal(c.PRG, prg) || !bytes.Equal(c.CHR, chr) {
			t.Error("the cart is changed")
		}
		clear(c.PRG)
		c.CHR[5] = 0xEE
		c.Mapper, c.Mirror, c.PRG, c.CHR = 0, ines.Horizontal, c.PRG[:prgUnit], nil
		if !sameLooks(played(t, m, mapper), want) {
			t.Errorf("mapper %d: a cart that is written over changes its map", mapper)
		}
	}
}

// R1: what lies behind PRG and CHR in memory has no part in the map.
func TestBehind(t *testing.T) {
	for mapper := range mappers {
		all := chance(3, 8*prgUnit)
		was := bytes.Clone(all)
		c := ines.Cart{Mapper: mapper, PRG: all[:3*prgUnit], CHR: all[100 : 100+2*chrUnit]}
		looks(t, mapOf(t, c), first(c))
		isNone(t, ines.Cart{Mapper: mapper, PRG: all[:3*prgUnit-1], CHR: all[:chrUnit]})
		isNone(t, ines.Cart{Mapper: mapper, PRG: all[:3*prgUnit], CHR: all[:chrUnit-1]})
		if !bytes.Equal(all, was) {
			t.Error("bytes are changed")
		}
	}
}

// R3: two maps, of one cart or of others, have nothing to do with each other.
func TestApart(t *testing.T) {
	for mapper := range mappers {
		c := cart(mapper, 5, 5)
		want := played(t, mapOf(t, c), 7)
		a, b := mapOf(t, c), mapOf(t, c)
		for other := range mappers {
			played(t, made(t, other, 4, 4), 8)
		}
		played(t, a, 9)
		looks(t, b, first(c))
		looks(t, mapOf(t, c), first(c))
		if !sameLooks(played(t, b, 7), want) {
			t.Errorf("mapper %d: a map hangs on another one", mapper)
		}
	}
}

// R3: two maps that are written to in turns.
func TestTurns(t *testing.T) {
	a, b := made(t, 1, 16, 16), made(t, 1, 16, 16)
	for i := range 5 {
		a.Write(prgAt, byte(5>>i&1))
		b.Write(prgAt, byte(10>>i&1))
	}
	hasPages(t, a, pages{10, 11, 30, 31})
	hasPages(t, b, pages{20, 21, 30, 31})
	c, d := latched(t, 3), latched(t, 1)
	for i := range 4 {
		c.Clock()
		d.Clock()
		if c.IRQ() != (i >= 3) || d.IRQ() != (i >= 1) {
			t.Errorf("clock %d: %v, %v", i, c.IRQ(), d.IRQ())
		}
	}
}

// R4: of the same writes the same is told, again and again; and to look changes nothing.
func TestAgain(t *testing.T) {
	for mapper := range mappers {
		want := played(t, made(t, mapper, 3, 7), 11)
		for range 3 {
			m := made(t, mapper, 3, 7)
			hasPlaces(t, m, 3*prgUnit, 7*chrUnit)
			if !sameLooks(played(t, m, 11), want) {
				t.Errorf("mapper %d: another answer", mapper)
			}
			was := lookAt(t, m)
			hasPlaces(t, m, 3*prgUnit, 7*chrUnit)
			looks(t, m, was)
		}
	}
}
