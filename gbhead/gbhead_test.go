package gbhead_test

import (
	"bytes"
	"fmt"
	"reflect"
	"testing"

	"picklock/api"
	"picklock/gbhead"
)

const (
	// most is how many bytes a file has at most, least how many at least.
	most  = 1 << 24
	least = 32768
	// headBytes is how many bytes a file needs to be signed.
	headBytes = 0x14E
	// Places in the head.
	typeAt = 0x147
	romAt  = 0x148
	ramAt  = 0x149
	sumAt  = 0x14D
)

// ramSizes is how many bytes of RAM each byte at ramAt tells.
var ramSizes = [...]int{0, 2048, 8192, 32768, 131072, 65536}

// kinds are those types that are some, each with its Kind.
func kinds() map[byte]int {
	return map[byte]int{
		0x00: 0,
		0x01: 1, 0x02: 1, 0x03: 1,
		0x0F: 3, 0x10: 3, 0x11: 3, 0x12: 3, 0x13: 3,
		0x19: 5, 0x1A: 5, 0x1B: 5, 0x1C: 5, 0x1D: 5, 0x1E: 5,
	}
}

// chance tells n bytes that look like chance, but are always the same for a seed.
func chance(seed, n int) []byte {
	x := uint32(seed)*2654435761 + 1
	b := make([]byte, n)
	for i := range b {
		x = x*1664525 + 1013904223
		b[i] = byte(x >> 24)
	}
	return b
}

// sumOf is the head's sum as the chapter's words have it: less by each of the 25 bytes, and by one more for each.
func sumOf(b []byte) byte {
	sum := 0
	for at := 0x134; at <= 0x14C; at++ {
		sum = sum - int(b[at]) - 1
	}
	return byte((sum%256 + 256) % 256)
}

// summed gives b the right sum, in its place, without Sign.
func summed(b []byte) []byte {
	b[sumAt] = sumOf(b)
	return b
}

// file is one of n bytes, whose head tells what it is handed, and has the right sum.
func file(n int, t, rom, ram byte) []byte {
	b := chance(1, n)
	b[typeAt], b[romAt], b[ramAt] = t, rom, ram
	return summed(b)
}

// sized is b with so many bytes, cut or with noughts behind.
func sized(b []byte, n int) []byte {
	out := make([]byte, n)
	copy(out, b)
	return out
}

// with is a copy of b that has x at a place.
func with(b []byte, at int, x byte) []byte {
	out := bytes.Clone(b)
	out[at] = x
	return out
}

func sameCart(a, b gbhead.Cart) bool {
	return a.Kind == b.Kind && a.RAM == b.RAM && bytes.Equal(a.ROM, b.ROM)
}

// shown tells of a cart what fits a line.
func shown(c gbhead.Cart) string {
	return fmt.Sprintf("{kind %d, ROM of %d (%.4X), RAM of %d}", c.Kind, len(c.ROM), c.ROM, c.RAM)
}

// named tells of a file what fits a line.
func named(b []byte) string {
	if len(b) < headBytes {
		return fmt.Sprintf("%d bytes", len(b))
	}
	return fmt.Sprintf("%d bytes, from 134 on % X", len(b), b[0x134:headBytes])
}

// parses is for a file of which just the cart that is wanted is told.
func parses(t *testing.T, b []byte, want gbhead.Cart) {
	t.Helper()
	if got, e := gbhead.Parse(b); e != api.OK || !sameCart(got, want) {
		t.Errorf("%s: %s, %v instead of %s", named(b), shown(got), e, shown(want))
	}
}

// fails is for a file of which e is told, and a zero cart beside it.
func fails(t *testing.T, b []byte, e api.Errno) {
	t.Helper()
	if got, told := gbhead.Parse(b); told != e || !reflect.DeepEqual(got, gbhead.Cart{}) {
		t.Errorf("%s: %s, %v instead of %v", named(b), shown(got), told, e)
	}
}

// signs is for bytes of which Sign tells a copy, but for the sum.
func signs(t *testing.T, b []byte, sum byte) []byte {
	t.Helper()
	got := gbhead.Sign(b)
	if !bytes.Equal(got, with(b, sumAt, sum)) {
		t.Errorf("%s: %s instead of the sum %02X", named(b), named(got), sum)
	}
	return got
}
