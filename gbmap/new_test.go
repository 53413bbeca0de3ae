package gbmap_test

import (
	"math"
	"testing"

	"picklock/api"
	"picklock/gbhead"
	"picklock/gbmap"
)

// isNone is for a cart of which there is no map.
func isNone(t *testing.T, c gbhead.Cart) {
	t.Helper()
	if m, e := gbmap.New(c); m != nil || e != api.ErrArg {
		t.Errorf("kind %d, ROM of %d, RAM of %d: %v, %v", c.Kind, len(c.ROM), c.RAM, m != nil, e)
	}
}

// L1: what stands at each address at first, for each kind, and each size: banks 0 and 1, and no RAM but of Plain.
func TestNew(t *testing.T) {
	for _, kind := range kinds {
		bank := none
		if kind == gbhead.Plain {
			bank = 0
		}
		for _, rom := range romSizes {
			for _, ram := range ramSizes {
				looks(t, made(t, kind, rom, ram), looking(rom, ram, 0, 1, bank))
			}
		}
	}
}

// L1: at first all numbers are 0, but that of ROM, which is 1, and MODE is 0: with RAM enabled alone its bank is 0.
func TestNewEnabled(t *testing.T) {
	for _, kind := range kinds {
		for _, ram := range ramSizes {
			looks(t, opened(t, kind, 5, ram), looking(5, ram, 0, 1, 0))
		}
	}
}

// L1: at first HIGH and MODE are 0, and LOW is 1, each as the other ones show it.
func TestNewNumbers(t *testing.T) {
	m := opened(t, gbhead.MBC1, 128, 32768)
	m.Write(0x6000, 1)
	hasBanks(t, m, 0, 1)
	hasRAM(t, m, 0)
	m = opened(t, gbhead.MBC1, 128, 32768)
	m.Write(0x4000, 2)
	hasBanks(t, m, 0, 65)
	hasRAM(t, m, 0)
	m = opened(t, gbhead.MBC5, 512, 131072)
	m.Write(0x3000, 1)
	hasBanks(t, m, 0, 0x101)
	hasRAM(t, m, 0)
}

// L1: a kind that is none of the four.
func TestNewKinds(t *testing.T) {
	for _, kind := range []int{-1, -2, -3, -5, 2, 4, 6, 7, 8, 15, 16, 19, 25, 128, 255, 256, 257, 259, 261, -253, -255, -256, 1 << 16, 1 << 32, 1<<32 + 1, math.MinInt, math.MinInt + 1, math.MaxInt} {
		isNone(t, cart(kind, 2, 0))
		isNone(t, cart(kind, 8, 8192))
	}
	for kind := 6; kind < 300; kind++ {
		isNone(t, cart(kind, 2, 8192))
		isNone(t, cart(5-kind, 2, 8192))
	}
}

// L1: ROM of none, of one bank of 16384, and of some bytes more or fewer than whole 16384.
func TestNewROM(t *testing.T) {
	sizes := []int{0, 1, 2, 16, 0x150, 512, 8192, romBank - 1, romBank, romBank + 1, romBank + 8192, 2*romBank - 1, 2*romBank + 1, 2*romBank + 512, 40000, 2*romBank + 8192, 3*romBank - 1, 3*romBank + 1, 4*romBank - 8192, 5*romBank + 4096, 128*romBank - 1, 128*romBank + 1, 512*romBank - 2, 512*romBank + 2, 1024*romBank - 1, 1024*romBank + 1}
	for _, kind := range kinds {
		for _, n := range sizes {
			isNone(t, gbhead.Cart{Kind: kind, ROM: noughts[:n]})
			isNone(t, gbhead.Cart{Kind: kind, ROM: noughts[:n], RAM: 8192})
		}
		isNone(t, gbhead.Cart{Kind: kind})
		isNone(t, gbhead.Cart{Kind: kind, ROM: []byte{}, RAM: 1})
	}
}

// L1: some whole 16384 bytes, at least two, are ROM: more than a file can tell, and more than a Plain one has, too.
func TestNewWholeROM(t *testing.T) {
	for _, kind := range kinds {
		for rom := 2; rom < 40; rom++ {
			hasBanks(t, made(t, kind, rom, 0), 0, 1)
		}
		hasBanks(t, made(t, kind, 1023, 0), 0, 1)
		hasBanks(t, made(t, kind, 1024, 0), 0, 1)
	}
}

// L1: a RAM below 0; a RAM of 0 is none, and any other one is one, whatever a file can tell.
func TestNewRAM(t *testing.T) {
	for _, kind := range kinds {
		for _, ram := range []int{-1, -2, -512, -8192, -32768, -1 << 31, -1 << 32, -1<<32 + 8192, math.MinInt, math.MinInt + 1} {
			isNone(t, cart(kind, 2, ram))
			isNone(t, cart(kind, 512, ram))
		}
		hasRAM(t, opened(t, kind, 2, 0), none)
		for _, ram := range []int{ramBank, ramBank + 1, 32768, 1 << 31, 1<<32 + 5, math.MaxInt} {
			hasRAM(t, opened(t, kind, 2, ram), 0)
		}
	}
}

// L1: a cart that is wrong in several parts, and a zero one.
func TestNewNothing(t *testing.T) {
	isNone(t, gbhead.Cart{})
	isNone(t, gbhead.Cart{RAM: -1})
	isNone(t, gbhead.Cart{Kind: 2})
	isNone(t, gbhead.Cart{Kind: 4, ROM: noughts[:40000], RAM: -8192})
	isNone(t, gbhead.Cart{Kind: gbhead.MBC5, ROM: noughts[:romBank], RAM: -1})
}

// L1: ROM's bytes have no part in its map.
func TestNewBytes(t *testing.T) {
	for _, kind := range kinds {
		looks(t, mapOf(t, gbhead.Cart{Kind: kind, ROM: chance(1, 3*romBank), RAM: 2048}), stateOf(kind).look(3, 2048))
	}
}

// L1: each cart that is parsed of a file has a map.
func TestNewParsed(t *testing.T) {
	for doublings := range 9 {
		for _, head := range []struct{ of, kind int }{{0x00, gbhead.Plain}, {0x03, gbhead.MBC1}, {0x13, gbhead.MBC3}, {0x1E, gbhead.MBC5}} {
			if head.kind == gbhead.Plain && doublings > 0 {
				continue
			}
			for n, ram := range []int{0, 2048, 8192, 32768, 131072, 65536} {
				b := make([]byte, 32768<<doublings)
				b[0x147], b[0x148], b[0x149] = byte(head.of), byte(doublings), byte(n)
				c, e := gbhead.Parse(gbhead.Sign(b))
				if e != api.OK {
					t.Fatal(e)
				}
				looks(t, mapOf(t, c), stateOf(head.kind).look(2<<doublings, ram))
			}
		}
	}
}
