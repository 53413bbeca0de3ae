package gbhead_test

import (
	"testing"

	"picklock/api"
	"picklock/gbhead"
)

// J1: the kinds have their numbers.
func TestKinds(t *testing.T) {
	if got := [...]int{gbhead.Plain, gbhead.MBC1, gbhead.MBC3, gbhead.MBC5}; got != [...]int{0, 1, 3, 5} {
		t.Error(got)
	}
}

// J1: a small file, whose bytes are written out.
func TestParseOne(t *testing.T) {
	b := make([]byte, 65536)
	copy(b, "first of ROM")
	copy(b[0x134:], "A TITLE")
	copy(b[65533:], "end")
	b[0x147], b[0x148], b[0x149] = 0x1B, 1, 3
	// To base sixteen: the title's bytes are 1E3, the other ones 1F, and one more for each of the 25 is 19, which makes 21B.
	b[0x14D] = 0xE5
	c, e := gbhead.Parse(append(b, "behind"...))
	if e != api.OK || c.Kind != gbhead.MBC5 || c.RAM != 32768 {
		t.Error(shown(c), e)
	}
	if len(c.ROM) != 65536 || string(c.ROM[:12]) != "first of ROM" || string(c.ROM[65533:]) != "end" || c.ROM[0x14D] != 0xE5 {
		t.Error(shown(c))
	}
}

// J1: the Kind of each of the 256 types, or that it is none.
func TestParseTypes(t *testing.T) {
	known := kinds()
	for i := range 256 {
		b := file(least, byte(i), 0, 2)
		if kind, ok := known[byte(i)]; ok {
			parses(t, b, gbhead.Cart{Kind: kind, ROM: b, RAM: 8192})
		} else {
			fails(t, b, api.ErrMapper)
		}
	}
}

// J1: how many bytes ROM has, of each byte from 0 to 8; it is the file's first ones, whatever follows.
func TestParseROM(t *testing.T) {
	sizes := []int{32768, 65536, 131072, 262144, 524288, 1048576, 2097152, 4194304, 8388608}
	for _, x := range []byte{0x01, 0x13, 0x1E} {
		for n, size := range sizes {
			want := gbhead.Cart{Kind: kinds()[x], ROM: file(size, x, byte(n), 4), RAM: 131072}
			parses(t, want.ROM, want)
			for _, behind := range [][]byte{{0}, {0xFF}, want.ROM[:0x150], chance(n, 5000), chance(n, size)} {
				parses(t, append(want.ROM[:size:size], behind...), want)
			}
		}
	}
	for _, n := range []int{least, least + 1, 2*least - 1, 2 * least, 5 * least} {
		b := file(n, 0, 0, 0)
		parses(t, b, gbhead.Cart{Kind: gbhead.Plain, ROM: b[:least]})
	}
}

// J1: how many bytes RAM has, of each byte from 0 to 5, whatever the type says of it.
func TestParseRAM(t *testing.T) {
	for x, kind := range kinds() {
		for ram, size := range ramSizes {
			b := file(least, x, 0, byte(ram))
			parses(t, b, gbhead.Cart{Kind: kind, ROM: b, RAM: size})
		}
	}
}

// J1: all sizes of ROM with all of RAM; the one has nothing to do with the other.
func TestParseSizes(t *testing.T) {
	all := chance(2, least<<8)
	for x, kind := range map[byte]int{0x03: 1, 0x10: 3, 0x19: 5} {
		for n := range 9 {
			for ram, size := range ramSizes {
				all[typeAt], all[romAt], all[ramAt] = x, byte(n), byte(ram)
				c, e := gbhead.Parse(summed(all)[:least<<n])
				if e != api.OK || c.Kind != kind || len(c.ROM) != least<<n || c.RAM != size {
					t.Errorf("%02X, %d, %d: %s, %v", x, n, ram, shown(c), e)
				}
			}
		}
	}
}

// J1: the byte at 14D is the head's sum: each other value is told.
func TestParseSums(t *testing.T) {
	for _, b := range [][]byte{
		file(least, 0, 0, 0),
		file(2*least, 0x13, 1, 5),
		summed(make([]byte, least)),
		file(least, 0x04, 9, 6),
		file(least, 0, 1, 0),
	} {
		right := b[sumAt]
		for x := range 256 {
			if byte(x) != right {
				fails(t, with(b, sumAt, byte(x)), api.ErrSum)
			}
		}
	}
}

// J1: each byte from 134 to 14C has a part in the sum, and each with the same weight.
func TestParseSummed(t *testing.T) {
	b := file(least, 0x01, 0, 0)
	for at := 0x134; at <= 0x14C; at++ {
		for by := 1; by < 256; by++ {
			fails(t, with(b, at, b[at]+byte(by)), api.ErrSum)
		}
		// The sum is as much less as the byte is more.
		for _, by := range []byte{1, 2, 0x7F, 0x80, 0xFF} {
			changed := with(b, at, b[at]+by)
			changed[sumAt] -= by
			if _, e := gbhead.Parse(changed); e == api.ErrSum || e != api.OK && (at < typeAt || at > ramAt) {
				t.Errorf("%X, more by %d: %v", at, by, e)
			}
		}
	}
	for at := 0x134; at < 0x14C; at++ {
		changed := with(b, at, b[at]+1)
		changed[at+1]--
		if _, e := gbhead.Parse(changed); e == api.ErrSum {
			t.Errorf("%X: one more, and then one less, tell another sum", at)
		}
	}
}

// J1: no byte outside has a part in the sum.
func TestParseUnsummed(t *testing.T) {
	b := file(least+300, 0x01, 0, 0)
	for at := range b {
		if at >= 0x134 && at <= sumAt {
			continue
		}
		was := b[at]
		b[at] ^= 0xA5
		parses(t, b, gbhead.Cart{Kind: gbhead.MBC1, ROM: b[:least]})
		b[at] = was
	}
	for _, at := range []int{0x100, 0x132, 0x133, 0x14E, 0x14F, 0x150, least - 1} {
		for x := range 256 {
			changed := with(b, at, byte(x))
			parses(t, changed, gbhead.Cart{Kind: gbhead.MBC1, ROM: changed[:least]})
		}
	}
}

// J1: just 2^24 bytes are not too many; one more is, whatever they are.
func TestParseLarge(t *testing.T) {
	b := file(most, 0x1E, 8, 5)
	parses(t, b, gbhead.Cart{Kind: gbhead.MBC5, ROM: b[:least<<8], RAM: 65536})
	fails(t, with(b, sumAt, b[sumAt]+1), api.ErrSum)
	for _, head := range [][]byte{b, make([]byte, least), file(least, 4, 0, 0), file(least, 1, 9, 0), file(least, 1, 0, 6), file(least, 0, 1, 0), nil} {
		fails(t, sized(head, most+1), api.ErrLarge)
	}
	fails(t, append(b, make([]byte, 5000)...), api.ErrLarge)
}

// J1: fewer than 32768 bytes are too few, whatever they are; just as many are enough.
func TestParseShort(t *testing.T) {
	for _, b := range [][]byte{
		file(least, 0, 0, 0),
		file(least, 4, 0, 0),
		file(least, 1, 9, 9),
		make([]byte, least),
	} {
		for n := range least {
			fails(t, b[:n], api.ErrShort)
		}
	}
	fails(t, nil, api.ErrShort)
	b := file(least, 0, 0, 0)
	parses(t, b, gbhead.Cart{ROM: b})
}

// J1: the byte at 148 is 8 at most.
func TestParseROMForm(t *testing.T) {
	for n := 9; n < 256; n++ {
		for x := range kinds() {
			fails(t, file(least, x, byte(n), 0), api.ErrForm)
		}
	}
	large := chance(3, most)
	for _, n := range []byte{9, 10, 31, 32, 63, 64, 128, 255} {
		large[typeAt], large[romAt], large[ramAt] = 0x19, n, 0
		fails(t, summed(large), api.ErrForm)
	}
}

// J1: the byte at 149 is 5 at most.
func TestParseRAMForm(t *testing.T) {
	for ram := 6; ram < 256; ram++ {
		for x := range kinds() {
			fails(t, file(least, x, 0, byte(ram)), api.ErrForm)
		}
		fails(t, file(2*least, 0x11, 1, byte(ram)), api.ErrForm)
	}
}

// J1: Plain has no more than 32768 bytes of ROM, though the other Kinds may.
func TestParsePlainForm(t *testing.T) {
	all := chance(4, least<<8)
	for n := 1; n <= 8; n++ {
		for x, kind := range kinds() {
			all[typeAt], all[romAt], all[ramAt] = x, byte(n), 0
			b := summed(all)[:least<<n]
			if kind == gbhead.Plain {
				fails(t, b, api.ErrForm)
			} else {
				parses(t, b, gbhead.Cart{Kind: kind, ROM: b})
			}
		}
	}
	b := file(9*least, 0, 0, 0)
	parses(t, b, gbhead.Cart{ROM: b[:least]})
}

// J1: a file that has fewer bytes than ROM; one that ends just there is parsed.
func TestParseCut(t *testing.T) {
	for _, x := range []byte{0x02, 0x0F, 0x1C} {
		for n := 1; n <= 8; n++ {
			size := least << n
			b := file(size, x, byte(n), 1)
			parses(t, b, gbhead.Cart{Kind: kinds()[x], ROM: b, RAM: 2048})
			for _, left := range []int{least, least + 1, size / 2, size/2 + 1, size - 16384, size - 2, size - 1} {
				if left < size {
					fails(t, b[:left], api.ErrShort)
				}
			}
		}
	}
	b := file(2*least, 0x01, 1, 0)
	for n := range b {
		fails(t, b[:n], api.ErrShort)
	}
}

// J1: where several errors apply, the first one of the row is told.
func TestParseOrder(t *testing.T) {
	large := make([]byte, most+1)
	for set := range 1 << 5 {
		isSet := func(bit int) bool { return set>>bit&1 == 1 }
		// ROM of which a file of 32768 bytes has too few, RAM that may not be, ROM that may not be, a type that is none, and another sum.
		b, want := file(least, 0x01, 0, 0), api.OK
		if isSet(0) {
			b[romAt], want = 1, api.ErrShort
		}
		if isSet(1) {
			b[ramAt], want = 6, api.ErrForm
		}
		if isSet(2) {
			b[romAt], want = 9, api.ErrForm
		}
		if isSet(3) {
			b[typeAt], want = 0x04, api.ErrMapper
		}
		summed(b)
		if isSet(4) {
			b[sumAt]++
			want = api.ErrSum
		}
		if want == api.OK {
			parses(t, b, gbhead.Cart{Kind: gbhead.MBC1, ROM: b})
		} else {
			fails(t, b, want)
		}
		for _, n := range []int{0, 1, headBytes - 1, headBytes, 5000, least - 1} {
			fails(t, b[:n], api.ErrShort)
		}
		copy(large, b)
		fails(t, large, api.ErrLarge)
	}
}

// J1: of a Plain file whose head tells too much ROM, and which has too few bytes for it, the form is told.
func TestParseOrderPlain(t *testing.T) {
	for n := 1; n < 256; n++ {
		b := file(least, 0, byte(n), 0)
		fails(t, b, api.ErrForm)
		fails(t, with(b, sumAt, b[sumAt]-1), api.ErrSum)
		fails(t, b[:least-1], api.ErrShort)
	}
}
