package ines_test

import (
	"bytes"
	"fmt"
	"reflect"
	"testing"

	"picklock/api"
	"picklock/ines"
)

const (
	// most is how many bytes a file has at most.
	most = 1 << 24
	// prgUnit and chrUnit are how many bytes a unit has, headBytes how many the head has, and aheadBytes how many may stand behind it, ahead of PRG.
	prgUnit    = 16384
	chrUnit    = 8192
	headBytes  = 16
	aheadBytes = 512
	// Bits of the first flags.
	verticalBit  = 1
	aheadBit     = 4
	forbiddenBit = 8
)

// chance tells n bytes that look like chance, but are always the same for a seed.
func chance(seed, n int) []byte {
	x := uint32(seed)*2654435761 + 1
	b := make([]byte, n)
	for i := range b {
		x = x*1664525 + 1013904223
		b[i] = byte(x >> 24)
	}
	return b
}

func join(parts ...[]byte) []byte { return bytes.Join(parts, nil) }

// head tells a file's first bytes; those of which nothing is asked are 0.
func head(prg, chr, first, second byte) []byte {
	return []byte{'N', 'E', 'S', 0x1A, prg, chr, first, second, 0, 0, 0, 0, 0, 0, 0, 0}
}

// prgOf and chrOf tell the bytes of so many units, which are others at each place.
func prgOf(units int) []byte { return chance(1, units*prgUnit) }
func chrOf(units int) []byte { return chance(2, units*chrUnit) }

// file tells a whole file, which ends where CHR does.
func file(prg, chr, first, second byte) []byte {
	ahead := 0
	if first&aheadBit != 0 {
		ahead = aheadBytes
	}
	return join(head(prg, chr, first, second), chance(3, ahead), prgOf(int(prg)), chrOf(int(chr)))
}

// sized is b with so many bytes, cut or with noughts behind.
func sized(b []byte, n int) []byte {
	out := make([]byte, n)
	copy(out, b)
	return out
}

// with is a copy of b that has x at a place.
func with(b []byte, at int, x byte) []byte {
	out := bytes.Clone(b)
	out[at] = x
	return out
}

func sameCart(a, b ines.Cart) bool {
	return a.Mapper == b.Mapper && a.Mirror == b.Mirror && a.RAM == b.RAM && bytes.Equal(a.PRG, b.PRG) && bytes.Equal(a.CHR, b.CHR)
}

// shown tells of a cart what fits a line.
func shown(c ines.Cart) string {
	return fmt.Sprintf("{mapper %d, mirror %d, RAM %v, PRG of %d (%.4X), CHR of %d (%.4X)}", c.Mapper, c.Mirror, c.RAM, len(c.PRG), c.PRG, len(c.CHR), c.CHR)
}

// parses is for a file of which just the cart that is wanted is told.
func parses(t *testing.T, b []byte, want ines.Cart) {
	t.Helper()
	if got, e := ines.Parse(b); e != api.OK || !sameCart(got, want) {
		t.Errorf("%d bytes, % .16X: %s, %v instead of %s", len(b), b, shown(got), e, shown(want))
	}
}

// fails is for a file of which e is told, and a zero cart beside it.
func fails(t *testing.T, b []byte, e api.Errno) {
	t.Helper()
	if got, told := ines.Parse(b); told != e || !reflect.DeepEqual(got, ines.Cart{}) {
		t.Errorf("%d bytes, % .16X: %s, %v instead of %v", len(b), b, shown(got), told, e)
	}
}

// builds is for a cart of which just the file that is wanted is told.
func builds(t *testing.T, c ines.Cart, want []byte) {
	t.Helper()
	if got, e := ines.Build(c); e != api.OK || !bytes.Equal(got, want) {
		t.Errorf("%s: %d bytes, % .16X, %v instead of %d bytes, % .16X", shown(c), len(got), got, e, len(want), want)
	}
}

// isNone is for a cart of which there is no file.
func isNone(t *testing.T, c ines.Cart) {
	t.Helper()
	if got, e := ines.Build(c); e != api.ErrArg || len(got) != 0 {
		t.Errorf("%s: %d bytes, %v instead of ErrArg", shown(c), len(got), e)
	}
}
