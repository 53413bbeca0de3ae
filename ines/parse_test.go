package ines_test

import (
	"bytes"
	"testing"

	"picklock/api"
	"picklock/ines"
)

// cartOf is the cart of a file that file tells, whose mapper is 0 and whose picture is mirrored across.
func cartOf(prg, chr int) ines.Cart {
	if chr == 0 {
		return ines.Cart{PRG: prgOf(prg), CHR: make([]byte, chrUnit), RAM: true}
	}
	return ines.Cart{PRG: prgOf(prg), CHR: chrOf(chr)}
}

// I1: the ways to mirror have their numbers.
func TestMirrors(t *testing.T) {
	if got := [...]int{ines.Horizontal, ines.Vertical, ines.Lower, ines.Upper}; got != [...]int{0, 1, 2, 3} {
		t.Error(got)
	}
}

// I1: a small file, whose bytes are written out.
func TestParseOne(t *testing.T) {
	b := sized([]byte("NES\x1A\x01\x01\x11\x00........first of PRG"), 16+16384)
	copy(b[16+16384-3:], "end")
	b = append(sized(append(b, "first of CHR"...), 16+16384+8192), "behind"...)
	c, e := ines.Parse(b)
	if e != api.OK || c.Mapper != 1 || c.Mirror != ines.Vertical || c.RAM {
		t.Error(shown(c), e)
	}
	if len(c.PRG) != 16384 || string(c.PRG[:12]) != "first of PRG" || string(c.PRG[16381:]) != "end" {
		t.Error(shown(c))
	}
	if len(c.CHR) != 8192 || string(c.CHR[:12]) != "first of CHR" || c.CHR[8191] != 0 {
		t.Error(shown(c))
	}
}

// I1: the head tells how many units of PRG and of CHR there are; they stand behind each other, behind the 512 bytes, if these are there, and whatever follows is not theirs.
func TestParseUnits(t *testing.T) {
	for _, prg := range []byte{1, 2, 3, 16, 127, 128, 254, 255} {
		for _, chr := range []byte{0, 1, 2, 3, 128, 255} {
			want := cartOf(int(prg), int(chr))
			for _, first := range []byte{0, aheadBit} {
				b := file(prg, chr, first, 0)
				parses(t, b, want)
				parses(t, append(b, 0xFF), want)
				parses(t, append(b, chance(9, 5000)...), want)
			}
		}
	}
}

// I1: of the 512 bytes nothing is asked, even if they look like a file themselves.
func TestParseAhead(t *testing.T) {
	for _, ahead := range [][]byte{
		make([]byte, 512),
		bytes.Repeat([]byte{0xFF}, 512),
		chance(5, 512),
		sized(head(9, 9, 0xFF, 0xFF), 512),
		prgOf(1)[:512],
	} {
		for _, chr := range []byte{0, 2} {
			parses(t, join(head(2, chr, aheadBit, 0), ahead, prgOf(2), chrOf(int(chr))), cartOf(2, int(chr)))
		}
	}
}

// I1: of the head's last eight bytes nothing is asked.
func TestParseUnasked(t *testing.T) {
	b, want := file(1, 1, 0, 0), cartOf(1, 1)
	for at := 8; at < 16; at++ {
		for x := range 256 {
			parses(t, with(b, at, byte(x)), want)
		}
	}
	for _, s := range []string{"DiskDude", "\xFF\xFF\xFF\xFF\xFF\xFF\xFF\xFF", "NES\x1ANES\x1A"} {
		parses(t, join(b[:8], []byte(s), b[16:]), want)
	}
}

// I1: the mapper, of the highest bits of the first flags, while those of the second ones are 0.
func TestParseMappers(t *testing.T) {
	for mapper, firsts := range [][]byte{{0x00, 0x01, 0x07}, {0x10, 0x11, 0x17}, {0x20, 0x21, 0x27}, {0x30, 0x31, 0x37}, {0x40, 0x41, 0x47}} {
		for _, first := range firsts {
			for _, second := range []byte{0x00, 0x01, 0x02, 0x03, 0x04, 0x07, 0x0C, 0x0F} {
				if c, e := ines.Parse(file(1, 0, first, second)); e != api.OK || c.Mapper != mapper {
					t.Errorf("%02X, %02X: %d, %v", first, second, c.Mapper, e)
				}
			}
		}
	}
	for _, first := range []byte{0x50, 0x60, 0x70, 0x80, 0x90, 0xC0, 0xF0, 0x57, 0xF7} {
		fails(t, file(1, 0, first, 0), api.ErrMapper)
	}
	// Sixteen times the highest bits of the second flags, even where those of the first ones alone tell one that is known.
	for _, second := range []byte{0x10, 0x20, 0x30, 0x40, 0x50, 0x80, 0xF0, 0x14, 0xFF} {
		for _, first := range []byte{0x00, 0x10, 0x20, 0x40, 0x50, 0xF0, 0x47} {
			fails(t, file(1, 0, first, second), api.ErrMapper)
		}
	}
}

// I1: Mirror hangs on bit 0 of the first flags alone.
func TestParseMirrors(t *testing.T) {
	for _, first := range []byte{0x00, 0x02, 0x04, 0x06, 0x10, 0x46} {
		for _, second := range []byte{0x00, 0x01, 0x0F} {
			c, e := ines.Parse(file(1, 1, first, second))
			d, f := ines.Parse(file(1, 1, first|verticalBit, second))
			if e != api.OK || c.Mirror != ines.Horizontal || f != api.OK || d.Mirror != ines.Vertical {
				t.Errorf("%02X, %02X: %d, %v, %d, %v", first, second, c.Mirror, e, d.Mirror, f)
			}
		}
	}
}

// told is what the chapter asks of a file whose head has these flags, and which has all its bytes.
func told(first, second int) (mapper, mirror int, e api.Errno) {
	mapper, mirror = second/16*16+first/16, first%2
	switch {
	case second/8%2 == 1 && second/4%2 == 0, first/8%2 == 1:
		return 0, 0, api.ErrForm
	case mapper > 4:
		return 0, 0, api.ErrMapper
	}
	return mapper, mirror, api.OK
}

// I1: all pairs of flags.
func TestParseFlags(t *testing.T) {
	here, behind := file(1, 1, 0, 0), file(1, 1, aheadBit, 0)
	prg, chr := prgOf(1), chrOf(1)
	for first := range 256 {
		b := here
		if first&aheadBit != 0 {
			b = behind
		}
		b[6] = byte(first)
		for second := range 256 {
			b[7] = byte(second)
			mapper, mirror, e := told(first, second)
			if e != api.OK {
				fails(t, b, e)
			} else {
				parses(t, b, ines.Cart{Mapper: mapper, Mirror: mirror, PRG: prg, CHR: chr})
			}
		}
	}
}

// I1: a file without CHR has 8192 noughts that may be written to; one with CHR has none, even if it is all noughts.
func TestParseRAM(t *testing.T) {
	blank := make([]byte, 8192)
	for _, first := range []byte{0, aheadBit} {
		// What follows PRG then is not CHR.
		b := append(file(2, 0, first, 0), chrOf(3)...)
		parses(t, b, ines.Cart{PRG: prgOf(2), CHR: blank, RAM: true})
		b[5] = 3
		parses(t, b, ines.Cart{PRG: prgOf(2), CHR: chrOf(3)})
		parses(t, append(with(file(2, 0, first, 0), 5, 1), blank...), ines.Cart{PRG: prgOf(2), CHR: blank})
	}
}

// I1: just 2^24 bytes are not too many; one more is, whatever they are.
func TestParseLarge(t *testing.T) {
	parses(t, sized(file(1, 1, 0, 0), most), cartOf(1, 1))
	parses(t, sized(file(255, 255, aheadBit, 0), most), cartOf(255, 255))
	fails(t, make([]byte, most), api.ErrForm)
	fails(t, sized(file(1, 1, 0x50, 0), most), api.ErrMapper)
	for _, b := range [][]byte{nil, file(1, 1, 0, 0), file(0, 0, 0, 0), file(1, 1, 0x50, 0), file(1, 1, 8, 0), file(1, 1, 0, 8)} {
		fails(t, sized(b, most+1), api.ErrLarge)
	}
	fails(t, sized(file(1, 1, 0, 0), most+5000), api.ErrLarge)
}

// I1: fewer than sixteen bytes are too few, whatever they are; sixteen are a head.
func TestParseShortHead(t *testing.T) {
	for _, b := range [][]byte{head(1, 0, 0, 0), head(0, 0, 0xFF, 0xFF), []byte("nothing of a head"), make([]byte, 16)} {
		for n := range 16 {
			fails(t, b[:n], api.ErrShort)
		}
	}
	fails(t, nil, api.ErrShort)
	fails(t, make([]byte, 16), api.ErrForm)
	fails(t, head(1, 0, 0x50, 0), api.ErrMapper)
	fails(t, head(1, 0, 0, 0), api.ErrShort)
}

// I1: each of the four bytes that a file begins with, in each other value.
func TestParseName(t *testing.T) {
	b := file(1, 0, 0, 0)
	for at := range 4 {
		for x := range 256 {
			if byte(x) != b[at] {
				fails(t, with(b, at, byte(x)), api.ErrForm)
			}
		}
	}
	for _, s := range []string{"nes\x1A", "SEN\x1A", "\x1ANES", "ENS\x1A", "UNIF", "FDS\x1A"} {
		fails(t, join([]byte(s), b[4:]), api.ErrForm)
	}
	fails(t, append([]byte{0}, b...), api.ErrForm)
}

// I1: bits 2 and 3 of the second flags may be all but 0 and 1.
func TestParseForm(t *testing.T) {
	for _, second := range []byte{0x00, 0x03, 0x04, 0x07, 0x0C, 0x0F} {
		parses(t, file(1, 0, 0, second), cartOf(1, 0))
	}
	for _, second := range []byte{0x08, 0x09, 0x0A, 0x0B} {
		fails(t, file(1, 0, 0, second), api.ErrForm)
	}
	for _, first := range []byte{0x08, 0x09, 0x0A, 0x0C, 0x0F, 0x48} {
		fails(t, file(1, 0, first, 0), api.ErrForm)
	}
}

// I1: no unit of PRG, with CHR and without, and however many bytes there are.
func TestParseNoPRG(t *testing.T) {
	for _, chr := range []byte{0, 1, 255} {
		b := file(0, chr, 0, 0)
		fails(t, b, api.ErrForm)
		fails(t, join(b, prgOf(3)), api.ErrForm)
		fails(t, b[:16], api.ErrForm)
	}
}

// I1: a file that ends ahead of CHR's end, wherever; one that ends just there is parsed.
func TestParseCut(t *testing.T) {
	for _, u := range []struct{ prg, chr byte }{{1, 0}, {2, 0}, {1, 1}, {1, 2}, {2, 1}, {3, 5}, {128, 128}, {255, 0}, {255, 255}} {
		for _, first := range []byte{0, aheadBit} {
			b := file(u.prg, u.chr, first, 0)
			parses(t, b, cartOf(int(u.prg), int(u.chr)))
			// One byte fewer, all of CHR, of PRG, and what lies between.
			for _, missing := range []int{1, 2, 511, 512, 513, chrUnit - 1, chrUnit, chrUnit + 1, prgUnit, int(u.chr) * chrUnit, int(u.prg) * prgUnit, len(b) / 2, len(b) - 17, len(b) - 16} {
				if missing > 0 {
					fails(t, b[:len(b)-missing], api.ErrShort)
				}
			}
		}
	}
	// All places of a small one, ahead of PRG and in it.
	b := file(1, 1, aheadBit, 0)
	for n := range len(b) {
		fails(t, b[:n], api.ErrShort)
	}
}

// I1: the chapter's example.
func TestParseExample(t *testing.T) {
	b := head(1, 0, 0, 0)
	fails(t, sized(b, 16399), api.ErrShort)
	parses(t, sized(b, 16400), ines.Cart{PRG: make([]byte, 16384), CHR: make([]byte, 8192), RAM: true})
}

// spoilt are all that may be wrong with a file's head, and what is told of each.
func spoilt() []struct {
	at int
	x  byte
	e  api.Errno
} {
	return []struct {
		at int
		x  byte
		e  api.Errno
	}{
		{0, 'n', api.ErrForm},
		{1, 0, api.ErrForm},
		{2, 'X', api.ErrForm},
		{3, 0x1B, api.ErrForm},
		{7, 0x08, api.ErrForm},
		{6, 0x08, api.ErrForm},
		{4, 0, api.ErrForm},
		{6, 0x50, api.ErrMapper},
		{7, 0x10, api.ErrMapper},
	}
}

// I1: where several errors apply, the first one of the row is told.
func TestParseOrder(t *testing.T) {
	all := spoilt()
	whole := file(1, 1, 0, 0)
	for set := range 1 << len(all) {
		b, want := bytes.Clone(whole), api.OK
		for i, s := range all {
			if set>>i&1 == 0 {
				continue
			}
			if s.at == 6 || s.at == 7 {
				b[s.at] |= s.x
			} else {
				b[s.at] = s.x
			}
			if want == api.OK {
				want = s.e
			}
		}
		for n := range 16 {
			fails(t, b[:n], api.ErrShort)
		}
		if want == api.OK {
			want = api.ErrShort
		} else {
			fails(t, b, want)
		}
		for _, n := range []int{16, 17, 16 + prgUnit, len(b) - 1} {
			fails(t, b[:n], want)
		}
	}
	large := make([]byte, most+1)
	for _, s := range all {
		copy(large, with(whole, s.at, s.x))
		fails(t, large, api.ErrLarge)
	}
}
