package ines_test

import (
	"math"
	"testing"

	"picklock/api"
	"picklock/ines"
)

// I2: a small file, byte by byte.
func TestBuildOne(t *testing.T) {
	prg, chr := sized([]byte("PRG's"), 32768), sized([]byte("CHR's"), 24576)
	prg[32767], chr[24575] = 0xFE, 0xFD
	b, e := ines.Build(ines.Cart{Mapper: 4, Mirror: ines.Vertical, PRG: prg, CHR: chr})
	if e != api.OK || len(b) != 16+32768+24576 {
		t.Fatal(len(b), e)
	}
	if got := string(b[:21]); got != "NES\x1A\x02\x03\x41\x00\x00\x00\x00\x00\x00\x00\x00\x00PRG's" {
		t.Errorf("%q", got)
	}
	if got := string(b[16+32767 : 16+32768+5]); got != "\xFECHR's" || b[len(b)-1] != 0xFD {
		t.Errorf("%q", got)
	}
}

// I2: each mapper and mirroring, few units and as many as may be: just those bytes that must be, and Parse tells just the cart of them.
func TestBuildParses(t *testing.T) {
	for _, prg := range []int{1, 2, 128, 255} {
		for _, chr := range []int{0, 1, 2, 128, 255} {
			c, b := cartOf(prg, chr), file(byte(prg), byte(chr), 0, 0)
			for mapper := range 5 {
				for _, mirror := range []int{ines.Horizontal, ines.Vertical} {
					c.Mapper, c.Mirror, b[6] = mapper, mirror, byte(mapper*16+mirror)
					builds(t, c, b)
					parses(t, b, c)
				}
			}
		}
	}
}

// I2: CHR that is all noughts is written, if it is no RAM: else Parse would tell another cart.
func TestBuildBlank(t *testing.T) {
	for _, units := range []int{1, 2} {
		c := ines.Cart{PRG: prgOf(1), CHR: make([]byte, units*chrUnit)}
		b := join(head(1, byte(units), 0, 0), prgOf(1), make([]byte, units*chrUnit))
		builds(t, c, b)
		parses(t, b, c)
	}
}

// I2: of a file that was parsed what needs not be is left out; of one that has nothing of it the same is built.
func TestBuildParsed(t *testing.T) {
	plain := file(3, 2, 0x31, 0)
	noted := join(with(with(file(3, 2, 0x37, 0), 7, 0x0F), 12, 0xFF), []byte("behind"))
	for _, b := range [][]byte{plain, append(plain, 1, 2, 3), noted} {
		c, e := ines.Parse(b)
		if e != api.OK {
			t.Fatal(e)
		}
		builds(t, c, plain)
	}
}

// I2: mappers that are not known.
func TestBuildMappers(t *testing.T) {
	for _, mapper := range []int{-1, -2, -16, 5, 6, 7, 8, 15, 16, 20, 64, 255, 256, 257, -256, -255, math.MinInt, math.MaxInt, math.MinInt + 1, 1 << 30} {
		isNone(t, ines.Cart{Mapper: mapper, PRG: prgOf(1), CHR: chrOf(1)})
		isNone(t, ines.Cart{Mapper: mapper, PRG: prgOf(1), CHR: make([]byte, chrUnit), RAM: true})
	}
}

// I2: Mirror is Horizontal or Vertical.
func TestBuildMirrors(t *testing.T) {
	for _, mirror := range []int{ines.Lower, ines.Upper, -1, -2, 4, 5, 8, 256, 257, math.MinInt, math.MaxInt} {
		for mapper := range 5 {
			isNone(t, ines.Cart{Mapper: mapper, Mirror: mirror, PRG: prgOf(1), CHR: chrOf(1)})
		}
		isNone(t, ines.Cart{Mirror: mirror, PRG: prgOf(1), CHR: make([]byte, chrUnit), RAM: true})
	}
}

// I2: PRG has from 1 to 255 whole units.
func TestBuildPRG(t *testing.T) {
	all := chance(1, 512*prgUnit)
	for _, n := range []int{0, 1, 15, chrUnit, prgUnit - 1, prgUnit + 1, prgUnit + chrUnit, 2*prgUnit - 1, 2*prgUnit + 1, 255*prgUnit - 1, 255*prgUnit + 1, 256 * prgUnit, 257 * prgUnit, 512 * prgUnit} {
		isNone(t, ines.Cart{PRG: all[:n], CHR: chrOf(1)})
		isNone(t, ines.Cart{PRG: all[:n], CHR: make([]byte, chrUnit), RAM: true})
	}
	isNone(t, ines.Cart{CHR: chrOf(1)})
}

// I2: CHR has from 1 to 255 whole units, if RAM is not set.
func TestBuildCHR(t *testing.T) {
	all := chance(2, 512*chrUnit)
	for _, n := range []int{0, 1, 1024, chrUnit - 1, chrUnit + 1, chrUnit + chrUnit/2, 2*chrUnit - 1, 2*chrUnit + 1, 255*chrUnit - 1, 255*chrUnit + 1, 256 * chrUnit, 257 * chrUnit, 512 * chrUnit} {
		isNone(t, ines.Cart{PRG: prgOf(1), CHR: all[:n]})
	}
	isNone(t, ines.Cart{PRG: prgOf(1)})
}

// I2: CHR is 8192 noughts, if RAM is set.
func TestBuildRAM(t *testing.T) {
	blank := make([]byte, 256*chrUnit)
	for _, n := range []int{0, 1, chrUnit - 1, chrUnit + 1, 2 * chrUnit, 3 * chrUnit, 255 * chrUnit, 256 * chrUnit} {
		isNone(t, ines.Cart{PRG: prgOf(1), CHR: blank[:n], RAM: true})
	}
	isNone(t, ines.Cart{PRG: prgOf(1), RAM: true})
	isNone(t, ines.Cart{PRG: prgOf(1), CHR: chrOf(1), RAM: true})
	for _, at := range []int{0, 1, 255, 256, 1023, 4096, 5000, chrUnit - 2, chrUnit - 1} {
		for _, x := range []byte{1, 0x80, 0xFF} {
			isNone(t, ines.Cart{PRG: prgOf(1), CHR: with(blank[:chrUnit], at, x), RAM: true})
		}
	}
}

// I2: a zero cart, and one that is wrong in all parts.
func TestBuildNothing(t *testing.T) {
	isNone(t, ines.Cart{})
	isNone(t, ines.Cart{RAM: true})
	isNone(t, ines.Cart{Mapper: 5, Mirror: ines.Lower, PRG: prgOf(1)[1:], CHR: chrOf(1)[1:], RAM: true})
}
