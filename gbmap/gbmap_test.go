package gbmap_test

import (
	"testing"

	"picklock/api"
	"picklock/gbhead"
	"picklock/gbmap"
)

const (
	// romBank and ramBank are how many bytes a bank has.
	romBank = 16384
	ramBank = 8192
)

// none is told where nothing stands.
const none = -1

// kinds are all that there are, switched those in which writes do something.
var (
	kinds    = [...]int{gbhead.Plain, gbhead.MBC1, gbhead.MBC3, gbhead.MBC5}
	switched = kinds[1:]
)

// romSizes are counts of banks: the least, few, powers of 2, others, and more than any number can tell.
var romSizes = [...]int{2, 3, 4, 5, 7, 8, 31, 32, 33, 64, 72, 100, 127, 128, 129, 255, 256, 257, 511, 512, 513, 600}

// ramSizes are counts of bytes: none, few, those of files, powers of 2, and others.
var ramSizes = [...]int{0, 1, 2, 3, 255, 512, 1000, 2048, 3000, 8191, 8192, 8193, 10000, 16384, 20000, 24576, 32768, 40000, 65536, 131072, 131073, 1 << 20}

// chance tells n bytes that look like chance, but are always the same for a seed.
func chance(seed, n int) []byte {
	x := uint32(seed)*2654435761 + 1
	b := make([]byte, n)
	for i := range b {
		x = x*1664525 + 1013904223
		b[i] = byte(x >> 24)
	}
	return b
}

// noughts are what carts of tests share, since a map keeps none of it: TestOwn has ROM of its own.
var noughts = make([]byte, 1024*romBank+1)

// cart is one of so many banks of ROM, and so many bytes of RAM.
func cart(kind, rom, ram int) gbhead.Cart {
	return gbhead.Cart{Kind: kind, ROM: noughts[:rom*romBank], RAM: ram}
}

// mapOf is for a cart that has a map.
func mapOf(t *testing.T, c gbhead.Cart) *gbmap.Map {
	t.Helper()
	m, e := gbmap.New(c)
	if m == nil || e != api.OK {
		t.Fatalf("kind %d, ROM of %d, RAM of %d: %v", c.Kind, len(c.ROM), c.RAM, e)
	}
	return m
}

func made(t *testing.T, kind, rom, ram int) *gbmap.Map {
	t.Helper()
	return mapOf(t, cart(kind, rom, ram))
}

// opened makes a map whose RAM is enabled.
func opened(t *testing.T, kind, rom, ram int) *gbmap.Map {
	t.Helper()
	m := made(t, kind, rom, ram)
	m.Write(0, 10)
	return m
}

// romEdges and ramEdges are places of a span: its first and its last ones, and some between.
var (
	romEdges = [...]int{0, 1, 0x0FFF, 0x1000, 0x1234, 0x2000, 0x3FFE, 0x3FFF}
	ramEdges = [...]int{0, 1, 0x01FF, 0x0200, 0x07FF, 0x0800, 0x0FFF, 0x1000, 0x1555, 0x1FFE, 0x1FFF}
)

// outside are addresses at which no RAM stands, beside those of ROM; no ROM stands there either.
var outside = [...]uint16{0x8000, 0x8001, 0x9000, 0x9FFE, 0x9FFF, 0xC000, 0xC001, 0xDFFF, 0xE000, 0xFE00, 0xFFFE, 0xFFFF}

// look is all that a map tells: the banks of both spans, and RAM's places.
type look struct {
	first, next int
	ram         [len(ramEdges)]int
}

// lookAt tells all of m, and holds Bank and ROM against each other.
func lookAt(t *testing.T, m *gbmap.Map) look {
	t.Helper()
	out := look{first: m.Bank(0), next: m.Bank(0x4000)}
	for i, bank := range []int{out.first, out.next} {
		for _, at := range romEdges {
			a := i*romBank + at
			if b, place := m.Bank(uint16(a)), m.ROM(uint16(a)); b != bank || place != romBank*bank+at {
				t.Errorf("%X: bank %d, place %X; at the span's first address bank %d", a, b, place, bank)
			}
			if place := m.RAM(uint16(a)); place != none {
				t.Errorf("%X: place %X of RAM", a, place)
			}
		}
	}
	for _, a := range outside {
		if m.Bank(a) != none || m.ROM(a) != none || m.RAM(a) != none {
			t.Errorf("%X: bank %d, place %d, of RAM %d", a, m.Bank(a), m.ROM(a), m.RAM(a))
		}
	}
	for i, at := range ramEdges {
		a := uint16(0xA000 + at)
		out.ram[i] = m.RAM(a)
		if m.Bank(a) != none || m.ROM(a) != none {
			t.Errorf("%X: bank %d, place %d", a, m.Bank(a), m.ROM(a))
		}
	}
	return out
}

// looking is what a map tells with these banks, if it has so many, and so many bytes of RAM; bank is RAM's, or none.
func looking(rom, ram, first, next, bank int) look {
	out := look{first: first % rom, next: next % rom}
	for i, at := range ramEdges {
		out.ram[i] = none
		if bank != none && ram > 0 {
			out.ram[i] = (bank*ramBank + at) % ram
		}
	}
	return out
}

// looks is for a map that tells just what is wanted.
func looks(t *testing.T, m *gbmap.Map, want look) {
	t.Helper()
	if got := lookAt(t, m); got != want {
		t.Errorf("%+v instead of %+v", got, want)
	}
}

// hasBanks is for a map at whose two spans just these banks stand.
func hasBanks(t *testing.T, m *gbmap.Map, first, next int) {
	t.Helper()
	if got := lookAt(t, m); got.first != first || got.next != next {
		t.Errorf("banks %d and %d instead of %d and %d", got.first, got.next, first, next)
	}
}

// hasRAM is for a map whose RAM stands from that place on, and is long enough, or none for one of which none stands.
func hasRAM(t *testing.T, m *gbmap.Map, from int) {
	t.Helper()
	for i, place := range lookAt(t, m).ram {
		want := none
		if from != none {
			want = from + ramEdges[i]
		}
		if place != want {
			t.Errorf("%X: place %X instead of %X", 0xA000+ramEdges[i], place, want)
		}
	}
}

// state is what writes have made of a kind's numbers, by the chapter's words.
type state struct {
	kind            int
	enabled         bool
	low, high, mode int
}

func stateOf(kind int) state { return state{kind: kind, enabled: kind == gbhead.Plain, low: 1} }

func (s *state) write(a uint16, v byte) {
	n := int(v)
	switch span := a >> 12; {
	case s.kind == gbhead.Plain || span > 7:
	case span < 2:
		s.enabled = n%16 == 10
	case s.kind == gbhead.MBC5:
		s.writeMBC5(span, n)
	case span < 4:
		s.low = n % 32
		if s.kind == gbhead.MBC3 {
			s.low = n % 128
		}
		if s.low == 0 {
			s.low = 1
		}
	case span < 6:
		s.high = n
		if s.kind == gbhead.MBC1 {
			s.high = n % 4
		}
	case s.kind == gbhead.MBC1:
		s.mode = n % 2
	}
}

func (s *state) writeMBC5(span uint16, n int) {
	switch span {
	case 2:
		s.low = s.low/256*256 + n
	case 3:
		s.low = s.low%256 + n%2*256
	case 4, 5:
		s.high = n % 16
	}
}

// look tells what a map shows in that state.
func (s state) look(rom, ram int) look {
	first, next, bank := 0, s.low, 0
	switch s.kind {
	case gbhead.MBC1:
		next += 32 * s.high
		if s.mode == 1 {
			first, bank = 32*s.high, s.high
		}
	case gbhead.MBC3, gbhead.MBC5:
		bank = s.high
	}
	if !s.enabled || s.kind == gbhead.MBC3 && bank > 3 {
		bank = none
	}
	return looking(rom, ram, first, next, bank)
}
