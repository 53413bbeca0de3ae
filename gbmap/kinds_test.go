package gbmap_test

import (
	"testing"

	"picklock/gbhead"
)

// spanEdges are addresses from one on up to a last one: those two, those beside them, and some between.
func spanEdges(first, last uint16) []uint16 {
	half := (first + last) / 2
	return []uint16{first, first + 1, first + 0x0123, half, half + 1, last - 0x0123, last - 1, last}
}

// L1: Plain: banks 0 and 1, RAM is always enabled, its bank is 0, and Write does nothing.
func TestPlain(t *testing.T) {
	for _, rom := range []int{2, 3, 8, 128} {
		m := made(t, gbhead.Plain, rom, 32768)
		hasBanks(t, m, 0, 1)
		hasRAM(t, m, 0)
		for a := range 0x10000 {
			m.Write(uint16(a), byte(a*7>>3))
			if a%64 == 0 {
				hasBanks(t, m, 0, 1)
				hasRAM(t, m, 0)
			}
		}
		for a := 0; a < 0x10000; a += 0x0FFF {
			for v := range 256 {
				m.Write(uint16(a), byte(v))
			}
			hasBanks(t, m, 0, 1)
			hasRAM(t, m, 0)
		}
	}
}

// L1: Write to 0 to 1FFF enables RAM just if v's lowest four bits are 10 (ten), and else it is not enabled any more: each v.
func TestEnable(t *testing.T) {
	enabling := map[byte]bool{0x0A: true, 0x1A: true, 0x2A: true, 0x3A: true, 0x4A: true, 0x5A: true, 0x6A: true, 0x7A: true, 0x8A: true, 0x9A: true, 0xAA: true, 0xBA: true, 0xCA: true, 0xDA: true, 0xEA: true, 0xFA: true}
	for _, kind := range switched {
		for v := range 256 {
			for _, a := range spanEdges(0, 0x1FFF) {
				shut, open := made(t, kind, 4, 32768), opened(t, kind, 4, 32768)
				hasRAM(t, shut, none)
				hasRAM(t, open, 0)
				shut.Write(a, byte(v))
				open.Write(a, byte(v))
				want := none
				if enabling[byte(v)] {
					want = 0
				}
				hasRAM(t, shut, want)
				hasRAM(t, open, want)
			}
		}
	}
}

// L1: no other address enables RAM, and none takes that back.
func TestEnableElsewhere(t *testing.T) {
	for _, kind := range switched {
		for _, v := range []byte{10, 0, 0x1A, 0xFF} {
			shut, open := made(t, kind, 4, 8192), opened(t, kind, 4, 8192)
			for a := 0x2000; a < 0x10000; a++ {
				if kind == gbhead.MBC3 && a >= 0x4000 && a < 0x6000 {
					continue // it would tell of a bank that is none
				}
				shut.Write(uint16(a), v)
				open.Write(uint16(a), v)
				if shut.RAM(0xA000) != none || open.RAM(0xA000) == none {
					t.Fatalf("kind %d, %X: places %d, %d", kind, a, shut.RAM(0xA000), open.RAM(0xA000))
				}
			}
		}
	}
}

// L1: what is not enabled keeps its numbers, and takes new ones.
func TestEnableKeeps(t *testing.T) {
	for _, kind := range switched {
		m, s := busy(t, kind, 512, 131072)
		for _, w := range []write{{0, 0}, {0x1000, 0x0A}, {0x1FFF, 0x0B}, {0x4000, 1}, {0x2000, 0x33}, {0x0800, 0xFA}, {0, 0xA0}, {0x6000, 0}, {0, 0xAA}, {0, 1}, {0x5FFF, 3}, {0x7000, 1}, {0, 10}} {
			m.Write(w.a, w.v)
			s.write(w.a, w.v)
			looks(t, m, s.look(512, 131072))
		}
	}
}

// L1: MBC1's LOW is v's lowest five bits, or 1, if these are 0: each v, at the span's first and its last address.
func TestMBC1Low(t *testing.T) {
	for _, a := range spanEdges(0x2000, 0x3FFF) {
		m := opened(t, gbhead.MBC1, 128, 32768)
		for v := range 256 {
			m.Write(a, byte(v))
			want := v & 31
			if v&31 == 0 {
				want = 1
			}
			hasBanks(t, m, 0, want)
			hasRAM(t, m, 0)
		}
	}
	m := made(t, gbhead.MBC1, 128, 0)
	for _, x := range []struct{ v, want int }{{0, 1}, {5, 5}, {32, 1}, {33, 1}, {34, 2}, {31, 31}, {63, 31}, {64, 1}, {255, 31}, {224, 1}} {
		m.Write(0x2000, byte(x.v))
		hasBanks(t, m, 0, x.want)
	}
}

// L1: MBC1's HIGH is v's lowest two bits: each v, at the span's first and its last address, with MODE 0 and 1.
func TestMBC1High(t *testing.T) {
	for _, a := range spanEdges(0x4000, 0x5FFF) {
		m := opened(t, gbhead.MBC1, 128, 32768)
		m.Write(0x2000, 7)
		for v := range 256 {
			high := v & 3
			m.Write(a, byte(v))
			hasBanks(t, m, 0, 32*high+7)
			hasRAM(t, m, 0)
			m.Write(0x6000, 1)
			hasBanks(t, m, 32*high, 32*high+7)
			hasRAM(t, m, 8192*high)
			m.Write(0x6000, 0)
		}
	}
}

// L1: MBC1's MODE is v's lowest bit: each v, at the span's first and its last address.
func TestMBC1Mode(t *testing.T) {
	for _, a := range spanEdges(0x6000, 0x7FFF) {
		m := opened(t, gbhead.MBC1, 128, 32768)
		m.Write(0x2000, 9)
		m.Write(0x4000, 3)
		for v := range 256 {
			m.Write(a, byte(v))
			if v&1 == 1 {
				hasBanks(t, m, 96, 105)
				hasRAM(t, m, 24576)
			} else {
				hasBanks(t, m, 0, 105)
				hasRAM(t, m, 0)
			}
		}
	}
}

// L1: MBC1's banks and RAM's, with each LOW, HIGH and MODE, counted round by some sizes.
func TestMBC1(t *testing.T) {
	for _, size := range []struct{ rom, ram int }{{2, 2048}, {5, 8192}, {64, 20000}, {72, 16384}, {128, 32768}, {200, 131072}} {
		m := opened(t, gbhead.MBC1, size.rom, size.ram)
		for n := range 256 {
			low, high, mode := n%32, n/32%4, n/128
			m.Write(0x3000, byte(low))
			m.Write(0x5000, byte(high))
			m.Write(0x7000, byte(mode))
			looks(t, m, looking(size.rom, size.ram, 32*high*mode, 32*high+max(low, 1), high*mode))
		}
	}
}

// L1: MBC1: a LOW of 1 in the place of 0 is that whatever HIGH is; 32, 64 and 96 never stand at the second span.
func TestMBC1Never(t *testing.T) {
	m := made(t, gbhead.MBC1, 128, 0)
	for high, want := range []int{1, 33, 65, 97} {
		m.Write(0x4000, byte(high))
		m.Write(0x2000, 0)
		hasBanks(t, m, 0, want)
		m.Write(0x2000, 32)
		hasBanks(t, m, 0, want)
	}
}

// L1: MBC1: RAM of one bank stands alike whatever HIGH is; of two banks HIGH is counted round, with MODE 1.
func TestMBC1RAM(t *testing.T) {
	for high := range 4 {
		for mode := range 2 {
			m := opened(t, gbhead.MBC1, 64, 8192)
			m.Write(0x4000, byte(high))
			m.Write(0x6000, byte(mode))
			hasRAM(t, m, 0)
			m = opened(t, gbhead.MBC1, 64, 16384)
			m.Write(0x4000, byte(high))
			m.Write(0x6000, byte(mode))
			hasRAM(t, m, 8192*(high%2)*mode)
		}
	}
}

// The chapter's example.
func TestExample(t *testing.T) {
	m := made(t, gbhead.MBC1, 64, 0)
	m.Write(0x2000, 0)
	m.Write(0x4000, 1)
	if got := m.Bank(0x4000); got != 33 {
		t.Errorf("bank %d", got)
	}
}

// L1: MBC3's LOW is v's lowest seven bits, or 1, if these are 0: each v, at the span's first and its last address.
func TestMBC3Low(t *testing.T) {
	for _, a := range spanEdges(0x2000, 0x3FFF) {
		m := opened(t, gbhead.MBC3, 128, 32768)
		for v := range 256 {
			m.Write(a, byte(v))
			want := v & 127
			if v&127 == 0 {
				want = 1
			}
			hasBanks(t, m, 0, want)
			hasRAM(t, m, 0)
		}
	}
	m := made(t, gbhead.MBC3, 128, 0)
	for _, x := range []struct{ v, want int }{{0, 1}, {128, 1}, {129, 1}, {127, 127}, {255, 127}, {32, 32}, {64, 64}, {96, 96}, {192, 64}} {
		m.Write(0x2000, byte(x.v))
		hasBanks(t, m, 0, x.want)
	}
}

// L1: MBC3's HIGH is v: RAM's bank if it is below 4, else none stands there: each v, at the span's first and its last address.
func TestMBC3High(t *testing.T) {
	for _, a := range spanEdges(0x4000, 0x5FFF) {
		m := opened(t, gbhead.MBC3, 128, 131072)
		m.Write(0x2000, 9)
		for v := range 256 {
			m.Write(a, byte(v))
			want := none
			if v < 4 {
				want = 8192 * v
			}
			hasRAM(t, m, want)
			hasBanks(t, m, 0, 9)
		}
		m.Write(a, 2)
		hasRAM(t, m, 16384)
	}
}

// L1: MBC3: Write to 6000 to 7FFF changes nothing.
func TestMBC3Above(t *testing.T) {
	changesNothing(t, gbhead.MBC3)
}

// L1: MBC5: Write to 6000 to 7FFF changes nothing.
func TestMBC5Above(t *testing.T) {
	changesNothing(t, gbhead.MBC5)
}

// changesNothing is for a kind that does nothing with what is written to 6000 to 7FFF.
func changesNothing(t *testing.T, kind int) {
	t.Helper()
	for _, v := range []byte{0, 1, 2, 4, 10, 0x80, 0xFF} {
		m, s := busy(t, kind, 512, 131072)
		for a := 0x6000; a < 0x8000; a++ {
			m.Write(uint16(a), v)
			if a&0x3F == 0x3F {
				looks(t, m, s.look(512, 131072))
			}
		}
		m = opened(t, kind, 512, 131072)
		m.Write(0x6000, v)
		m.Write(0x7FFF, v)
		looks(t, m, looking(512, 131072, 0, 1, 0))
	}
}

// L1: MBC5's LOW: v is its lowest eight bits at 2000 to 2FFF, and leaves the ninth.
func TestMBC5Lowest(t *testing.T) {
	for _, a := range spanEdges(0x2000, 0x2FFF) {
		for ninth := range 2 {
			m := opened(t, gbhead.MBC5, 512, 131072)
			m.Write(0x3000, byte(ninth))
			for v := range 256 {
				m.Write(a, byte(v))
				hasBanks(t, m, 0, 256*ninth+v)
				hasRAM(t, m, 0)
			}
		}
	}
}

// L1: MBC5's LOW: v's lowest bit is its ninth one at 3000 to 3FFF, and leaves the others.
func TestMBC5Ninth(t *testing.T) {
	for _, a := range spanEdges(0x3000, 0x3FFF) {
		for _, low := range []byte{0, 1, 0x34, 0x80, 0xFF} {
			m := opened(t, gbhead.MBC5, 512, 131072)
			m.Write(0x2000, low)
			for v := range 256 {
				m.Write(a, byte(v))
				hasBanks(t, m, 0, v&1<<8|int(low))
				hasRAM(t, m, 0)
			}
		}
	}
}

// L1: MBC5: a LOW of 0 stands as bank 0, at both spans, and so does one of 256 among 256 banks.
func TestMBC5Nought(t *testing.T) {
	m := made(t, gbhead.MBC5, 512, 0)
	m.Write(0x2000, 0)
	hasBanks(t, m, 0, 0)
	m.Write(0x3000, 1)
	hasBanks(t, m, 0, 256)
	m.Write(0x3000, 0)
	hasBanks(t, m, 0, 0)
	m = made(t, gbhead.MBC5, 256, 0)
	m.Write(0x2000, 0)
	m.Write(0x3000, 1)
	hasBanks(t, m, 0, 0)
}

// L1: MBC5: of both parts of LOW each stays as it is while the other one is written, in whatever order.
func TestMBC5Parts(t *testing.T) {
	m := made(t, gbhead.MBC5, 512, 0)
	for _, x := range []struct {
		write
		want int
	}{
		{write{0x3000, 0xFE}, 1},
		{write{0x3FFF, 0xFF}, 257},
		{write{0x2000, 0xFF}, 511},
		{write{0x3000, 0}, 255},
		{write{0x2FFF, 0x12}, 0x12},
		{write{0x3000, 3}, 0x112},
		{write{0x2000, 0}, 0x100},
		{write{0x3800, 0x80}, 0},
	} {
		m.Write(x.a, x.v)
		if got := m.Bank(0x4000); got != x.want {
			t.Errorf("%X, %X: bank %d instead of %d", x.a, x.v, got, x.want)
		}
	}
}

// L1: MBC5's HIGH is v's lowest four bits, RAM's bank: each v, at the span's first and its last address.
func TestMBC5High(t *testing.T) {
	for _, a := range spanEdges(0x4000, 0x5FFF) {
		m := opened(t, gbhead.MBC5, 512, 131072)
		m.Write(0x2000, 0x45)
		m.Write(0x3000, 1)
		for v := range 256 {
			m.Write(a, byte(v))
			hasRAM(t, m, 8192*(v&15))
			hasBanks(t, m, 0, 0x145)
		}
	}
}
