package nesmap_test

import (
	"math"
	"testing"

	"picklock/api"
	"picklock/ines"
	"picklock/nesmap"
)

// isNone is for a cart of which there is no map.
func isNone(t *testing.T, c ines.Cart) {
	t.Helper()
	if m, e := nesmap.New(c); m != nil || e != api.ErrArg {
		t.Errorf("mapper %d, PRG of %d, CHR of %d: %v, %v", c.Mapper, len(c.PRG), len(c.CHR), m != nil, e)
	}
}

// first is what a map of a cart tells at first, by the chapter's words.
func first(c ines.Cart) look {
	n := len(c.PRG) / pageBytes
	want := look{mirror: c.Mirror, units: inOrder, pages: pages{0, 1, n - 2, n - 1}}
	switch c.Mapper {
	case 0, 3:
		want.pages = pages{0, 1, 2 % n, 3 % n}
	case 1:
		want.mirror = ines.Lower
	case 4:
		want.pages[1] = 0
		want.units = units{0, 1, 0, 1, 0, 0, 0, 0}
	}
	return want
}

// K1, K2: what stands at each address at first, for each mapper, and each size.
func TestNew(t *testing.T) {
	for mapper := range mappers {
		for _, prg := range numbers {
			for _, chr := range numbers {
				for _, mirror := range mirrors {
					c := cart(mapper, prg, chr)
					c.Mirror = mirror
					looks(t, mapOf(t, c), first(c))
				}
			}
		}
	}
}

// K1: of Mirror nothing is asked: what the cart says is told, but of Mapper 1, whose register tells it.
func TestNewMirror(t *testing.T) {
	for mapper := range mappers {
		for _, mirror := range []int{ines.Horizontal, ines.Vertical, ines.Lower, ines.Upper, -1, 4, math.MinInt, math.MaxInt} {
			c := cart(mapper, 2, 2)
			c.Mirror = mirror
			looks(t, mapOf(t, c), first(c))
		}
	}
}

// K1: a cart's RAM, and its bytes, have no part in its map.
func TestNewRAM(t *testing.T) {
	for mapper := range mappers {
		c := cart(mapper, 3, 1)
		c.RAM = true
		looks(t, mapOf(t, c), first(c))
		c.PRG, c.CHR = chance(1, len(c.PRG)), chance(2, 3*chrUnit)
		looks(t, mapOf(t, c), first(c))
	}
}

// K1: PRG and CHR may have more units than a file can tell.
func TestNewLarge(t *testing.T) {
	for mapper := range mappers {
		for _, prg := range []int{256, 257, 1024, 1025} {
			c := cart(mapper, prg, prg+1)
			looks(t, mapOf(t, c), first(c))
		}
	}
}

// K1: a mapper that is none of the five.
func TestNewMappers(t *testing.T) {
	for _, mapper := range []int{-1, -2, -3, -4, -5, -16, 5, 6, 7, 8, 15, 16, 66, 128, 255, 256, 257, 260, -252, -256, 1 << 16, 1 << 32, 1<<32 + 1, math.MinInt, math.MinInt + 1, math.MaxInt} {
		isNone(t, cart(mapper, 1, 1))
		isNone(t, cart(mapper, 8, 4))
	}
	for mapper := 5; mapper < 300; mapper++ {
		isNone(t, cart(mapper, 2, 1))
		isNone(t, cart(4-mapper, 2, 1))
	}
}

// sizes are counts of bytes that are no whole units, or none.
func sizes(unit int) []int {
	return []int{0, 1, 15, 16, 512, 1024, unit / 4, unit / 2, unit - 1024, unit - 1, unit + 1, unit + 512, unit + unit/2, 2*unit - 1, 2*unit + 1, 3*unit + unit/2, 8*unit - 1, 8*unit + 1, 255*unit + 1, 256*unit - 1}
}

// K1: PRG that has not some whole 16384 bytes, at least one.
func TestNewPRG(t *testing.T) {
	all := make([]byte, 256*prgUnit)
	for mapper := range mappers {
		for _, n := range append(sizes(prgUnit), chrUnit, 3*chrUnit, 5*chrUnit) {
			c := cart(mapper, 0, 1)
			c.PRG = all[:n]
			isNone(t, c)
			c.CHR = all[:4*chrUnit]
			isNone(t, c)
		}
		c := cart(mapper, 0, 1)
		c.PRG = nil
		isNone(t, c)
	}
}

// K1: CHR that has not some whole 8192 bytes, at least one, be it RAM or not.
func TestNewCHR(t *testing.T) {
	all := make([]byte, 256*chrUnit)
	for mapper := range mappers {
		for _, n := range sizes(chrUnit) {
			c := cart(mapper, 1, 0)
			c.CHR = all[:n]
			isNone(t, c)
			c.RAM = true
			isNone(t, c)
		}
		c := cart(mapper, 1, 0)
		c.CHR = nil
		isNone(t, c)
	}
}

// K1: a cart that is wrong in several parts, and a zero one.
func TestNewNothing(t *testing.T) {
	isNone(t, ines.Cart{})
	isNone(t, ines.Cart{RAM: true, Mirror: ines.Upper})
	isNone(t, ines.Cart{Mapper: 5})
	isNone(t, ines.Cart{Mapper: -1, PRG: make([]byte, 5), CHR: make([]byte, 7)})
	isNone(t, ines.Cart{Mapper: 4, PRG: make([]byte, chrUnit), CHR: make([]byte, chrUnit/2)})
}

// K1: each cart that is parsed of a file has a map.
func TestNewParsed(t *testing.T) {
	for mapper := range mappers {
		for _, chr := range []int{0, 1, 3} {
			c := cart(mapper, 3, chr)
			c.RAM = chr == 0
			if c.RAM {
				c.CHR = make([]byte, chrUnit)
			}
			b, e := ines.Build(c)
			if e != api.OK {
				t.Fatal(e)
			}
			if c, e = ines.Parse(b); e != api.OK {
				t.Fatal(e)
			}
			looks(t, mapOf(t, c), first(c))
		}
	}
}
