package gbmap_test

import (
	"bytes"
	"slices"
	"testing"

	"picklock/gbhead"
	"picklock/gbmap"
)

// played does to a map what a seed says, and tells all looks between.
func played(t *testing.T, m *gbmap.Map, seed int) []look {
	t.Helper()
	script := chance(seed, 3*200)
	var out []look
	for i := 0; i < len(script); i += 3 {
		a, v := uint16(script[i])<<8|uint16(script[i+1]), script[i+2]
		if i%4 == 0 {
			a, v = a%0x2000, v&0xF0|0x0A // often enough RAM is enabled
		}
		m.Write(a, v)
		out = append(out, lookAt(t, m))
	}
	return out
}

// L1: what is played is what the chapter's words make of it, for each kind.
func TestPlayed(t *testing.T) {
	for _, kind := range kinds {
		for seed := range 20 {
			rom, ram := romSizes[seed%len(romSizes)], ramSizes[seed*5%len(ramSizes)]
			m, s := made(t, kind, rom, ram), stateOf(kind)
			for i, b := range chance(seed, 300) {
				a, v := uint16(i*0x2B3D)^uint16(b)<<4, b
				if i%3 == 0 {
					a, v = a%0x2000, 0x3A
				}
				m.Write(a, v)
				s.write(a, v)
				looks(t, m, s.look(rom, ram))
			}
		}
	}
}

// R1: a cart is neither changed nor kept: who owns it may write over it.
func TestOwn(t *testing.T) {
	for _, kind := range kinds {
		c := gbhead.Cart{Kind: kind, ROM: chance(1, 5*romBank), RAM: 20000}
		was := bytes.Clone(c.ROM)
		want := played(t, made(t, kind, 5, 20000), kind)
		m := mapOf(t, c)
		played(t, mapOf(t, c), kind+50)
		if c.Kind != kind || c.RAM != 20000 || !bytes.Equal(c.ROM, was) {
			t.Error("the cart is changed")
		}
		clear(c.ROM)
		c.Kind, c.ROM, c.RAM = gbhead.Plain, c.ROM[:2*romBank], 0
		if !slices.Equal(played(t, m, kind), want) {
			t.Errorf("kind %d: a cart that is written over changes its map", kind)
		}
	}
}

// R1: what lies behind ROM in memory has no part in the map, and is left.
func TestBehind(t *testing.T) {
	all := chance(3, 8*romBank)
	was := bytes.Clone(all)
	for _, kind := range kinds {
		m := mapOf(t, gbhead.Cart{Kind: kind, ROM: all[:3*romBank], RAM: 2048})
		if !slices.Equal(played(t, m, 5), played(t, made(t, kind, 3, 2048), 5)) {
			t.Errorf("kind %d: bytes behind ROM change its map", kind)
		}
		isNone(t, gbhead.Cart{Kind: kind, ROM: all[:3*romBank-1], RAM: 2048})
		isNone(t, gbhead.Cart{Kind: kind, ROM: all[:romBank]})
	}
	if !bytes.Equal(all, was) {
		t.Error("bytes are changed")
	}
}

// R3: two maps, of one cart or of others, have nothing to do with each other.
func TestApart(t *testing.T) {
	for _, kind := range kinds {
		c := cart(kind, 40, 32768)
		want := played(t, mapOf(t, c), 7)
		a, b := mapOf(t, c), mapOf(t, c)
		for _, other := range kinds {
			played(t, made(t, other, 4, 8192), 8)
		}
		played(t, a, 9)
		looks(t, b, stateOf(kind).look(40, 32768))
		looks(t, mapOf(t, c), stateOf(kind).look(40, 32768))
		if !slices.Equal(played(t, b, 7), want) {
			t.Errorf("kind %d: a map hangs on another one", kind)
		}
	}
}

// R3: two maps that are written to in turns.
func TestTurns(t *testing.T) {
	a, b := opened(t, gbhead.MBC5, 512, 131072), opened(t, gbhead.MBC5, 512, 131072)
	for i := range 256 {
		a.Write(0x2000, byte(i))
		b.Write(0x2000, byte(255-i))
		a.Write(0x4000, byte(i))
		b.Write(0x3000, byte(i))
		looks(t, a, looking(512, 131072, 0, i, i%16))
		looks(t, b, looking(512, 131072, 0, i%2*256+255-i, 0))
	}
}

// R4: of the same writes the same is told, again and again; and to look changes nothing.
func TestAgain(t *testing.T) {
	for _, kind := range kinds {
		want := played(t, made(t, kind, 7, 3000), 11)
		for range 3 {
			m := made(t, kind, 7, 3000)
			hasPlaces(t, m, 7, 3000)
			if !slices.Equal(played(t, m, 11), want) {
				t.Errorf("kind %d: another answer", kind)
			}
			was := lookAt(t, m)
			hasPlaces(t, m, 7, 3000)
			looks(t, m, was)
		}
	}
}
