package gbmap_test

import (
	"testing"

	"picklock/gbhead"
	"picklock/gbmap"
)

// busy makes a map whose numbers are all something, and whose RAM is enabled, and tells its state.
func busy(t *testing.T, kind, rom, ram int) (*gbmap.Map, state) {
	t.Helper()
	m, s := made(t, kind, rom, ram), stateOf(kind)
	writes := []write{{0x0000, 0x0A}, {0x2000, 0x6D}, {0x4000, 0x02}, {0x6000, 0x01}}
	if kind == gbhead.MBC5 {
		writes = append(writes, write{0x3000, 0x01})
	}
	for _, w := range writes {
		m.Write(w.a, w.v)
		s.write(w.a, w.v)
	}
	looks(t, m, s.look(rom, ram))
	return m, s
}

type write struct {
	a uint16
	v byte
}

// writesAll does all writes in order.
func writesAll(m *gbmap.Map, all []write) {
	for _, w := range all {
		m.Write(w.a, w.v)
	}
}

// L1: Bank and ROM of each address: of the two spans each has its bank, and ROM is 16384 times it, and the address's lowest fourteen bits; -1 from 8000 on.
func TestBanks(t *testing.T) {
	for kind, want := range map[int][2]int{gbhead.Plain: {0, 1}, gbhead.MBC1: {64, 77}, gbhead.MBC3: {0, 109}, gbhead.MBC5: {0, 365}} {
		m, _ := busy(t, kind, 512, 8192)
		for a := range 0x10000 {
			bank, place := none, none
			if a < 0x8000 {
				bank = want[a/0x4000]
				place = 16384*bank + a&0x3FFF
			}
			if m.Bank(uint16(a)) != bank || m.ROM(uint16(a)) != place {
				t.Fatalf("kind %d, %X: bank %d, place %X instead of %d, %X", kind, a, m.Bank(uint16(a)), m.ROM(uint16(a)), bank, place)
			}
		}
	}
}

// L1: the two spans at their first and last addresses, written out.
func TestBankEdges(t *testing.T) {
	m := made(t, gbhead.MBC1, 128, 0)
	writesAll(m, []write{{0x2000, 3}, {0x4000, 2}, {0x6000, 1}})
	for _, x := range []struct {
		a           uint16
		bank, place int
	}{
		{0x0000, 64, 0x100000},
		{0x0001, 64, 0x100001},
		{0x3FFF, 64, 0x103FFF},
		{0x4000, 67, 0x10C000},
		{0x4001, 67, 0x10C001},
		{0x7FFF, 67, 0x10FFFF},
		{0x8000, -1, -1},
		{0x8001, -1, -1},
		{0xA000, -1, -1},
		{0xFFFF, -1, -1},
	} {
		if bank, place := m.Bank(x.a), m.ROM(x.a); bank != x.bank || place != x.place {
			t.Errorf("%X: bank %d, place %X", x.a, bank, place)
		}
	}
}

// L1: banks are counted round by how many there are: of two, and of numbers that are no powers of 2, in both spans.
func TestBanksRound(t *testing.T) {
	for _, x := range []struct{ rom, low, high, first, next int }{
		{2, 1, 0, 0, 1},
		{2, 2, 0, 0, 0},
		{2, 31, 0, 0, 1},
		{2, 30, 3, 0, 0},
		{3, 3, 0, 0, 0},
		{3, 4, 1, 2, 0},
		{3, 1, 2, 1, 2},
		{3, 31, 3, 0, 1},
		{5, 5, 0, 0, 0},
		{5, 9, 1, 2, 1},
		{5, 1, 3, 1, 2},
		{72, 8, 2, 64, 0},
		{72, 9, 2, 64, 1},
		{72, 7, 2, 64, 71},
		{72, 1, 3, 24, 25},
		{96, 0, 3, 0, 1},
		{127, 31, 3, 96, 0},
		{128, 31, 3, 96, 127},
	} {
		m := made(t, gbhead.MBC1, x.rom, 0)
		writesAll(m, []write{{0x2000, byte(x.low)}, {0x4000, byte(x.high)}, {0x6000, 1}})
		hasBanks(t, m, x.first, x.next)
	}
}

// L1: of each kind and each size, each number of banks is counted round.
func TestBanksRoundAll(t *testing.T) {
	for _, rom := range romSizes {
		for v := range 128 {
			m := made(t, gbhead.MBC3, rom, 0)
			m.Write(0x2000, byte(v))
			hasBanks(t, m, 0, max(v, 1)%rom)
		}
		for v := range 512 {
			m := made(t, gbhead.MBC5, rom, 0)
			m.Write(0x2000, byte(v))
			m.Write(0x3000, byte(v>>8))
			hasBanks(t, m, 0, v%rom)
		}
	}
}

// L1: RAM of each address: a place from A000 to BFFF, and -1 of any other one.
func TestRAM(t *testing.T) {
	for kind, from := range map[int]int{gbhead.Plain: 0, gbhead.MBC1: 16384, gbhead.MBC3: 16384, gbhead.MBC5: 16384} {
		m, _ := busy(t, kind, 128, 32768)
		for a := range 0x10000 {
			want := none
			if a >= 0xA000 && a <= 0xBFFF {
				want = from + a - 0xA000
			}
			if got := m.RAM(uint16(a)); got != want {
				t.Fatalf("kind %d, %X: place %X instead of %X", kind, a, got, want)
			}
		}
	}
}

// L1: -1 if there is no RAM, whatever was written, and whatever the address.
func TestRAMNone(t *testing.T) {
	for _, kind := range kinds {
		m, _ := busy(t, kind, 128, 0)
		for a := range 0x10000 {
			if m.RAM(uint16(a)) != none {
				t.Fatalf("kind %d, %X: place %X", kind, a, m.RAM(uint16(a)))
			}
		}
	}
}

// L1: -1 if it is not enabled, whatever the address, but of Plain.
func TestRAMNotEnabled(t *testing.T) {
	for _, kind := range switched {
		m, _ := busy(t, kind, 128, 32768)
		m.Write(0, 0)
		for a := range 0x10000 {
			if m.RAM(uint16(a)) != none {
				t.Fatalf("kind %d, %X: place %X", kind, a, m.RAM(uint16(a)))
			}
		}
	}
}

// L1: a place is counted round by how many bytes RAM has, written out.
func TestRAMRound(t *testing.T) {
	for _, x := range []struct {
		ram, bank int
		a         uint16
		want      int
	}{
		{512, 0, 0xA000, 0},
		{512, 0, 0xA1FF, 0x1FF},
		{512, 0, 0xA200, 0},
		{512, 0, 0xBFFF, 0x1FF},
		{512, 3, 0xA201, 1},
		{2048, 0, 0xA7FF, 0x7FF},
		{2048, 0, 0xA800, 0},
		{2048, 0, 0xBFFF, 0x7FF},
		{2048, 15, 0xA801, 1},
		{3000, 0, 0xABB7, 2999},
		{3000, 0, 0xABB8, 0},
		{3000, 0, 0xBFFF, 2191},
		{3000, 1, 0xA000, 2192},
		{3000, 2, 0xA000, 1384},
		{1, 7, 0xBFFF, 0},
		{8192, 0, 0xBFFF, 8191},
		{8192, 1, 0xA000, 0},
		{8192, 9, 0xBFFF, 8191},
		{8193, 1, 0xA000, 8192},
		{8193, 1, 0xA001, 0},
		{20000, 2, 0xA000, 16384},
		{20000, 2, 0xAE1F, 19999},
		{20000, 2, 0xAE20, 0},
		{20000, 3, 0xA000, 4576},
		{32768, 3, 0xBFFF, 32767},
		{32768, 4, 0xA000, 0},
		{32768, 15, 0xA005, 0x6005},
		{65536, 15, 0xBFFF, 65535},
		{131072, 15, 0xBFFF, 131071},
		{1 << 20, 15, 0xBFFF, 131071},
	} {
		m := opened(t, gbhead.MBC5, 2, x.ram)
		m.Write(0x4000, byte(x.bank))
		if got := m.RAM(x.a); got != x.want {
			t.Errorf("RAM of %d, bank %d, %X: %d instead of %d", x.ram, x.bank, x.a, got, x.want)
		}
	}
}

// L1: of each kind, each size and each bank, a place is counted round.
func TestRAMRoundAll(t *testing.T) {
	for _, ram := range ramSizes {
		looks(t, made(t, gbhead.Plain, 2, ram), looking(2, ram, 0, 1, 0))
		m := opened(t, gbhead.MBC1, 2, ram)
		m.Write(0x6000, 1)
		for bank := range 4 {
			m.Write(0x4000, byte(bank))
			looks(t, m, looking(2, ram, 0, 1, bank))
		}
		m = opened(t, gbhead.MBC3, 2, ram)
		for bank := range 4 {
			m.Write(0x4000, byte(bank))
			looks(t, m, looking(2, ram, 0, 1, bank))
		}
		m = opened(t, gbhead.MBC5, 2, ram)
		for bank := range 16 {
			m.Write(0x4000, byte(bank))
			looks(t, m, looking(2, ram, 0, 1, bank))
		}
	}
}

// L1: from 8000 on nothing happens, for each kind: at first, and once all numbers are something.
func TestWriteAbove(t *testing.T) {
	for _, kind := range kinds {
		a := made(t, kind, 512, 131072)
		b, s := busy(t, kind, 512, 131072)
		for at := 0x8000; at < 0x10000; at++ {
			a.Write(uint16(at), 0x0A)
			b.Write(uint16(at), byte(at>>4))
			if at&0xFF == 0xFF {
				looks(t, a, stateOf(kind).look(512, 131072))
				looks(t, b, s.look(512, 131072))
			}
		}
		for v := range 256 {
			for _, at := range outside {
				a.Write(at, byte(v))
				b.Write(at, byte(v))
			}
			a.Write(0xA000, byte(v))
			b.Write(0xBFFF, byte(v))
			looks(t, a, stateOf(kind).look(512, 131072))
			looks(t, b, s.look(512, 131072))
		}
	}
}

// L1: each address below 8000 does what its span does, for each kind, from first to last.
func TestWriteAddresses(t *testing.T) {
	for _, kind := range kinds {
		for a := range 0x8000 {
			for _, v := range []byte{0x00, 0x35} {
				m, s := busy(t, kind, 512, 131072)
				m.Write(uint16(a), v)
				s.write(uint16(a), v)
				bank, next, first := m.RAM(0xA000), m.Bank(0x4000), m.Bank(0)
				if want := s.look(512, 131072); bank != want.ram[0] || next != want.next || first != want.first {
					t.Fatalf("kind %d, %X, %X: banks %d and %d, RAM %X instead of %d, %d, %X", kind, a, v, first, next, bank, want.first, want.next, want.ram[0])
				}
			}
		}
	}
}

// L1: each v at the edges of each span, for each kind, in each state that busy and a new map are in.
func TestWriteValues(t *testing.T) {
	for _, kind := range kinds {
		for span := range 8 {
			for _, at := range []int{0, 0x0FFF} {
				a := uint16(span<<12 | at)
				for v := range 256 {
					m, s := busy(t, kind, 512, 131072)
					m.Write(a, byte(v))
					s.write(a, byte(v))
					looks(t, m, s.look(512, 131072))
					m, s = opened(t, kind, 512, 131072), stateOf(kind)
					s.enabled = true
					m.Write(a, byte(v))
					s.write(a, byte(v))
					looks(t, m, s.look(512, 131072))
				}
			}
		}
	}
}

// What follows: behind any writes each address's place in ROM, and each place in RAM that is told, is one that there is.
func TestPlaces(t *testing.T) {
	for _, kind := range kinds {
		for i, rom := range romSizes {
			ram := ramSizes[(i+kind)%len(ramSizes)]
			m, s := made(t, kind, rom, ram), stateOf(kind)
			script := chance(10*i+kind, 3*60)
			for len(script) > 0 {
				a, v := uint16(script[0])<<8|uint16(script[1]), script[2]
				m.Write(a, v)
				s.write(a, v)
				looks(t, m, s.look(rom, ram))
				hasPlaces(t, m, rom, ram)
				script = script[3:]
			}
		}
	}
}

// hasPlaces is for a map of which no address has a place outside ROM and RAM.
func hasPlaces(t *testing.T, m *gbmap.Map, rom, ram int) {
	t.Helper()
	for a := 0; a < 0x8000; a += 61 {
		if bank, place := m.Bank(uint16(a)), m.ROM(uint16(a)); bank < 0 || bank >= rom || place < 0 || place >= rom*romBank {
			t.Fatalf("%X: bank %d, place %X of %d banks", a, bank, place, rom)
		}
	}
	for a := 0xA000; a < 0xC000; a += 61 {
		if place := m.RAM(uint16(a)); place < none || place >= ram {
			t.Fatalf("%X: place %X of %d bytes of RAM", a, place, ram)
		}
	}
}
