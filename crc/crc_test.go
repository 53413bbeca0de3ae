package crc_test

import (
	"bytes"
	"fmt"
	"hash/crc32"
	"math"
	"testing"

	"picklock/crc"
)

// noise tells n bytes that are the same for the same seed, and look like any bytes.
func noise(seed uint32, n int) []byte {
	b := make([]byte, n)
	for i := range b {
		seed = seed*1664525 + 1013904223
		b[i] = byte(seed >> 24)
	}
	return b
}

// edges are sums that a register's handling could trip over: no bits, all bits, one bit at either end, and sums of some bytes.
var edges = []uint32{
	0, 1, 2, 0x80, 0xFF, 0x100, 0xFF00, 0xFF0000, 0xFF000000, 0x80000000, 0x7FFFFFFF,
	0xFFFFFFFE, math.MaxUint32, 0xEDB88320, ^uint32(0xEDB88320), 0x2144DF1C, 0xCBF43926, 0x01234567, 0x89ABCDEF,
}

// plainNext is what the chapter says, bit by bit.
func plainNext(sum uint32, b []byte) uint32 {
	register := sum ^ math.MaxUint32
	for _, x := range b {
		register ^= uint32(x)
		for range 8 {
			if register%2 == 1 {
				register = register/2 ^ 0xEDB88320
			} else {
				register /= 2
			}
		}
	}
	return register ^ math.MaxUint32
}

// B1: sums that are known elsewhere, the chapter's example among them, and no bytes at all.
func TestSumKnown(t *testing.T) {
	cases := []struct {
		b    []byte
		want uint32
	}{
		{nil, 0},
		{[]byte{}, 0},
		{[]byte("123456789"), 0xCBF43926},
		{[]byte("a"), 0xE8B7BE43},
		{[]byte("abc"), 0x352441C2},
		{[]byte{0}, 0xD202EF8D},
		{[]byte{0xFF}, 0xFF000000},
		{[]byte{0, 0, 0, 0}, 0x2144DF1C},
		{[]byte{0xFF, 0xFF, 0xFF, 0xFF}, 0xFFFFFFFF},
		{make([]byte, 32), 0x190A55AD},
		{[]byte("The quick brown fox jumps over the lazy dog"), 0x414FA339},
	}
	for _, c := range cases {
		if got := crc.Sum(c.b); got != c.want {
			t.Errorf("Sum(% X): %08X, not %08X", c.b, got, c.want)
		}
	}
}

// B1: each single byte, by the chapter's words and as zip has it.
func TestSumOfEachByte(t *testing.T) {
	for x := range 256 {
		b := []byte{byte(x)}
		if got := crc.Sum(b); got != plainNext(0, b) || got != crc32.ChecksumIEEE(b) {
			t.Errorf("Sum(%02X): %08X", x, got)
		}
	}
}

// B1: rows of all lengths up to some, and a long one.
func TestSumOfRows(t *testing.T) {
	for n := range 300 {
		b := noise(uint32(n), n)
		if got := crc.Sum(b); got != plainNext(0, b) || got != crc32.ChecksumIEEE(b) {
			t.Errorf("Sum of %d bytes: %08X", n, got)
		}
	}
	b := noise(5, 1<<20+3)
	if got, want := crc.Sum(b), crc32.ChecksumIEEE(b); got != want {
		t.Errorf("Sum of %d bytes: %08X, not %08X", len(b), got, want)
	}
}

// B1: the order of the bytes counts, and so do bytes of 0 ahead of others and behind them.
func TestSumTellsApart(t *testing.T) {
	rows := [][]byte{{}, {0}, {0, 0}, {1}, {1, 0}, {0, 1}, {1, 2}, {2, 1}, {0xFF}, {0xFF, 0xFF}}
	seen := map[uint32][]byte{}
	for _, b := range rows {
		s := crc.Sum(b)
		if other, ok := seen[s]; ok {
			t.Errorf("% X and % X have the same sum %08X", other, b, s)
		}
		seen[s] = b
	}
}

// B1: Next of any sum, whether or not one knows the bytes that have it.
func TestNextOfAnySum(t *testing.T) {
	for _, sum := range edges {
		for _, b := range [][]byte{nil, {}, {0}, {0xFF}, {0x5A}, {0, 0, 0, 0}, []byte("123456789"), noise(sum, 70)} {
			got := crc.Next(sum, b)
			if got != plainNext(sum, b) || got != crc32.Update(sum, crc32.IEEETable, b) {
				t.Errorf("Next(%08X, % X): %08X", sum, b, got)
			}
			if len(b) == 0 && got != sum {
				t.Errorf("Next(%08X) of no bytes: %08X", sum, got)
			}
		}
	}
}

// B1: Next of 0 is Sum, since no bytes have the sum 0.
func TestNextOfNoughtIsSum(t *testing.T) {
	for n := range 40 {
		b := noise(uint32(n)+9, n)
		if crc.Next(0, b) != crc.Sum(b) {
			t.Errorf("% X: %08X, not %08X", b, crc.Next(0, b), crc.Sum(b))
		}
	}
}

// B1: bytes that are summed in parts have the sum of the whole: in two at each place, and byte by byte.
func TestNextInParts(t *testing.T) {
	for _, b := range [][]byte{[]byte("123456789"), noise(3, 64), make([]byte, 20), bytes.Repeat([]byte{0xFF}, 20)} {
		want := crc.Sum(b)
		for at := range len(b) + 1 {
			if got := crc.Next(crc.Sum(b[:at]), b[at:]); got != want {
				t.Errorf("% X parted at %d: %08X, not %08X", b, at, got, want)
			}
		}
		var sum uint32
		for i := range b {
			sum = crc.Next(crc.Next(sum, nil), b[i:i+1])
		}
		if sum != want {
			t.Errorf("% X byte by byte: %08X, not %08X", b, sum, want)
		}
	}
}

// B2: rows that are known.
func TestForgeKnown(t *testing.T) {
	cases := []struct {
		sum, want uint32
		row       [4]byte
	}{
		{0, 0x2144DF1C, [4]byte{}},
		{0, 0xFFFFFFFF, [4]byte{0xFF, 0xFF, 0xFF, 0xFF}},
		{0xFFFFFFFF, 0xFFFFFFFF, [4]byte{}},
		{0, 0, [4]byte{0x9D, 0x0A, 0xD9, 0x6D}},
		{crc.Sum([]byte("12345")), 0xCBF43926, [4]byte{'6', '7', '8', '9'}},
	}
	for _, c := range cases {
		if got := crc.Forge(c.sum, c.want); got != c.row {
			t.Errorf("Forge(%08X, %08X): % X, not % X", c.sum, c.want, got, c.row)
		}
	}
}

// B2: the four bytes lead from sum to want, be the two equal or not.
func TestForgeLeads(t *testing.T) {
	for _, sum := range edges {
		for _, want := range edges {
			row := crc.Forge(sum, want)
			if got := crc.Next(sum, row[:]); got != want {
				t.Errorf("Forge(%08X, %08X): % X leads to %08X", sum, want, row, got)
			}
			if got := crc32.Update(sum, crc32.IEEETable, row[:]); got != want {
				t.Errorf("Forge(%08X, %08X): % X leads zip's to %08X", sum, want, row, got)
			}
		}
	}
}

// B2: bits of sum and of want, one by one.
func TestForgeOfEachBit(t *testing.T) {
	for i := range 32 {
		for _, pair := range [][2]uint32{{1 << i, 0}, {0, 1 << i}, {1 << i, 1 << i}, {^uint32(1 << i), 1 << i}} {
			row := crc.Forge(pair[0], pair[1])
			if got := crc.Next(pair[0], row[:]); got != pair[1] {
				t.Errorf("Forge(%08X, %08X): % X leads to %08X", pair[0], pair[1], row, got)
			}
		}
	}
}

// B2: there is just one such row, so a row is told again by what it led to.
func TestForgeFindsTheRow(t *testing.T) {
	for _, sum := range edges {
		for i := range 256 {
			n := noise(sum+uint32(i), 4)
			for _, row := range [][4]byte{{byte(i)}, {0, byte(i)}, {0, 0, byte(i)}, {0, 0, 0, byte(i)}, [4]byte(n)} {
				if got := crc.Forge(sum, crc.Next(sum, row[:])); got != row {
					t.Fatalf("% X behind %08X: % X", row, sum, got)
				}
			}
		}
	}
}

// B1, B2: any file gets any sum by four bytes at its end.
func TestForgeBehindBytes(t *testing.T) {
	for n := range 20 {
		b := noise(uint32(n), n)
		for _, want := range edges {
			row := crc.Forge(crc.Sum(b), want)
			if got := crc.Sum(append(bytes.Clone(b), row[:]...)); got != want {
				t.Errorf("% X with % X behind: %08X, not %08X", b, row, got, want)
			}
		}
	}
}

// What follows: of rows of as many bytes the xor of three has the xor of their three sums.
func TestXorOfThreeRows(t *testing.T) {
	for n := range 80 {
		rows := [][]byte{noise(1, n), noise(uint32(n)+2, n), noise(3, n), make([]byte, n), bytes.Repeat([]byte{0xFF}, n)}
		for _, p := range [][3]int{{0, 1, 2}, {0, 1, 3}, {0, 4, 2}, {3, 4, 1}, {0, 0, 1}, {2, 2, 2}, {3, 3, 3}} {
			x := make([]byte, n)
			for i := range x {
				x[i] = rows[p[0]][i] ^ rows[p[1]][i] ^ rows[p[2]][i]
			}
			want := crc.Sum(rows[p[0]]) ^ crc.Sum(rows[p[1]]) ^ crc.Sum(rows[p[2]])
			if got := crc.Sum(x); got != want {
				t.Errorf("%d bytes, rows %v: %08X, not %08X", n, p, got, want)
			}
		}
	}
}

// R1: what is handed in stays, also behind its end, and is not kept: written over, it has its own sum.
func TestHandedInStays(t *testing.T) {
	whole := noise(7, 32)
	b := whole[4:20]
	before := bytes.Clone(whole)
	sum, next := crc.Sum(b), crc.Next(11, b)
	if !bytes.Equal(whole, before) {
		t.Error("what was handed in has changed")
	}
	for i := range b {
		b[i] = 0
	}
	if got := crc.Sum(b); got != plainNext(0, make([]byte, 16)) {
		t.Errorf("written over: %08X", got)
	}
	if got := crc.Sum(before[4:20]); got != sum {
		t.Errorf("the same bytes elsewhere: %08X, not %08X", got, sum)
	}
	if got := crc.Next(11, before[4:20]); got != next {
		t.Errorf("the same bytes elsewhere: %08X, not %08X", got, next)
	}
}

// R1: a row that was told is the caller's.
func TestForgedRowIsTheCallers(t *testing.T) {
	row := crc.Forge(3, 4)
	first := row
	for i := range row {
		row[i] ^= 0xFF
	}
	if again := crc.Forge(3, 4); again != first {
		t.Errorf("% X, not % X", again, first)
	}
}

// R3, R4: the same calls have the same answers, whatever was called between them.
func TestSameAgain(t *testing.T) {
	tell := func() string {
		b := []byte("123456789")
		return fmt.Sprintf("%08X %08X % X", crc.Sum(b), crc.Next(5, b), crc.Forge(5, 6))
	}
	first := tell()
	crc.Sum(noise(1, 100))
	crc.Next(77, noise(2, 100))
	crc.Forge(78, 79)
	if again := tell(); again != first {
		t.Errorf("%s, then %s", first, again)
	}
}
