package varnum_test

import (
	"bytes"
	"fmt"
	"math"
	"testing"

	"picklock/api"
	"picklock/octet"
	"picklock/varnum"
)

// greatest is the greatest number that has a writing.
const greatest = 1 << 32

// firsts are the least numbers of one byte, of two, and so on: at each of them one byte more is wanted.
var firsts = []uint64{0, 1 << 7, 1<<7 + 1<<14, 1<<7 + 1<<14 + 1<<21, 1<<7 + 1<<14 + 1<<21 + 1<<28}

// known are numbers with their bytes: the chapter's examples, both sides of where one byte more is wanted, and the greatest.
var known = []struct {
	u uint64
	b []byte
}{
	{0, []byte{0x80}},
	{1, []byte{0x81}},
	{126, []byte{0xFE}},
	{127, []byte{0xFF}},
	{128, []byte{0x00, 0x80}},
	{129, []byte{0x01, 0x80}},
	{255, []byte{0x7F, 0x80}},
	{256, []byte{0x00, 0x81}},
	{300, []byte{0x2C, 0x81}},
	{16511, []byte{0x7F, 0xFF}},
	{16512, []byte{0x00, 0x00, 0x80}},
	{16513, []byte{0x01, 0x00, 0x80}},
	{2113663, []byte{0x7F, 0x7F, 0xFF}},
	{2113664, []byte{0x00, 0x00, 0x00, 0x80}},
	{270549119, []byte{0x7F, 0x7F, 0x7F, 0xFF}},
	{270549120, []byte{0x00, 0x00, 0x00, 0x00, 0x80}},
	{1<<32 - 1, []byte{0x7F, 0x7E, 0x7E, 0x7E, 0x8E}},
	{1 << 32, []byte{0x00, 0x7F, 0x7E, 0x7E, 0x8E}},
}

// some tells numbers of all lengths: those around each first one, around each power of two, and others between.
func some() []uint64 {
	var out []uint64
	for _, u := range firsts {
		out = append(out, u, u+1, u+127, u+128)
	}
	for _, u := range firsts[1:] {
		out = append(out, u-1, u-2)
	}
	for i := range 33 {
		out = append(out, 1<<i, 1<<i-1)
	}
	for u := uint64(3); u < greatest; u = u*5/3 + 7 {
		out = append(out, u)
	}
	return out
}

// plainPut is what the chapter says, step by step.
func plainPut(u uint64) []byte {
	var b []byte
	for {
		x := byte(u & 0x7F)
		u >>= 7
		if u == 0 {
			return append(b, x+128)
		}
		b = append(b, x)
		u--
	}
}

// plainSaid is what bytes say so far, as the chapter has it: sums over their places.
func plainSaid(b []byte) uint64 {
	var said uint64
	for i, x := range b {
		said += uint64(x&0x7F) << (7 * i)
		if i < len(b)-1 {
			said += 1 << (7 * (i + 1))
		}
	}
	return said
}

// fails is for bytes whose Take must tell e, and nothing else: the reader stays where it was, at a second time too.
func fails(t *testing.T, b []byte, e api.Errno) {
	t.Helper()
	for _, at := range []int{0, 3} {
		r := octet.NewReader(append([]byte{0x85, 0x05, 0x80}[:at:at], b...))
		if _, e := r.Bytes(at); e != api.OK {
			t.Fatal(e)
		}
		for range 2 {
			if u, got := varnum.Take(r); u != 0 || got != e {
				t.Errorf("% X: %d, %v instead of %v", b, u, got, e)
			}
			if r.At() != at || r.Left() != len(b) {
				t.Errorf("% X: from %d to %d, with %d left", b, at, r.At(), r.Left())
			}
		}
		if rest, e := r.Bytes(len(b)); e != api.OK || !bytes.Equal(rest, b) {
			t.Errorf("% X: % X is read behind a Take that failed, %v", b, rest, e)
		}
	}
}

// C1: the bytes of numbers that are known.
func TestPutKnown(t *testing.T) {
	for _, k := range known {
		if b := varnum.Put(k.u); !bytes.Equal(b, k.b) {
			t.Errorf("Put(%d): % X, not % X", k.u, b, k.b)
		}
	}
}

// C1: all small numbers and some greater ones are put as the chapter says, step by step.
func TestPutAsWritten(t *testing.T) {
	for u := range uint64(40000) {
		if b := varnum.Put(u); !bytes.Equal(b, plainPut(u)) {
			t.Fatalf("Put(%d): % X, not % X", u, b, plainPut(u))
		}
	}
	for _, u := range some() {
		if b := varnum.Put(u); !bytes.Equal(b, plainPut(u)) || plainSaid(b) != u {
			t.Errorf("Put(%d): % X, not % X", u, b, plainPut(u))
		}
	}
}

// C1: at each first number one byte more is wanted, and only the last byte has its highest bit set.
func TestPutLengths(t *testing.T) {
	for i, u := range firsts {
		want := append(make([]byte, i), 0x80)
		if b := varnum.Put(u); !bytes.Equal(b, want) {
			t.Errorf("Put(%d): % X, not % X", u, b, want)
		}
		if i == 0 {
			continue
		}
		want = append(bytes.Repeat([]byte{0x7F}, i-1), 0xFF)
		if b := varnum.Put(u - 1); !bytes.Equal(b, want) {
			t.Errorf("Put(%d): % X, not % X", u-1, b, want)
		}
	}
}

// C1: above 2^32 there are no bytes.
func TestPutTooGreat(t *testing.T) {
	if b := varnum.Put(greatest); len(b) != 5 {
		t.Errorf("2^32: % X", b)
	}
	for _, u := range []uint64{greatest + 1, greatest + 2, greatest + 128, 1 << 33, 1 << 35, 1 << 40, 1<<63 - 1, 1 << 63, 1<<63 + 1, math.MaxUint64 - 1, math.MaxUint64} {
		if b := varnum.Put(u); len(b) != 0 {
			t.Errorf("Put(%d): % X", u, b)
		}
	}
}

// C1: what was put is taken, whatever stands ahead and behind, and the reader is right behind it.
func TestTakeWhatWasPut(t *testing.T) {
	behind := [][]byte{nil, {0}, {0x80}, {0xFF}, {0x7F, 0x7F, 0x7F, 0x7F, 0x7F, 0x7F, 0x7F}, {0x0E}, {0x8E}}
	for _, u := range some() {
		b := varnum.Put(u)
		for _, rest := range behind {
			for _, ahead := range [][]byte{nil, {0x00, 0x7F}} {
				r := octet.NewReader(bytes.Join([][]byte{ahead, b, rest}, nil))
				if _, e := r.Bytes(len(ahead)); e != api.OK {
					t.Fatal(e)
				}
				if got, e := varnum.Take(r); got != u || e != api.OK {
					t.Errorf("%d, % X behind: %d, %v", u, rest, got, e)
				}
				if r.At() != len(ahead)+len(b) || r.Left() != len(rest) {
					t.Errorf("%d, % X behind: at %d with %d left", u, rest, r.At(), r.Left())
				}
			}
		}
	}
}

// C1: numbers that are known, from bytes that are written out.
func TestTakeKnown(t *testing.T) {
	for _, k := range known {
		r := octet.NewReader(k.b)
		if u, e := varnum.Take(r); u != k.u || e != api.OK || r.Left() != 0 {
			t.Errorf("% X: %d, %v, with %d left", k.b, u, e, r.Left())
		}
	}
}

// C1: numbers one behind the other are taken in their order, then it's short.
func TestTakeOneBehindTheOther(t *testing.T) {
	w := &octet.Writer{}
	for _, u := range some() {
		w.Bytes(varnum.Put(u))
	}
	r := octet.NewReader(w.Done())
	for _, u := range some() {
		if got, e := varnum.Take(r); got != u || e != api.OK {
			t.Fatalf("%d: %d, %v", u, got, e)
		}
	}
	if u, e := varnum.Take(r); u != 0 || e != api.ErrShort || r.At() != w.Len() {
		t.Error(u, e, r.At())
	}
}

// C1: ErrShort, where there are no bytes, or none of them is the last one, and they say at most 2^32.
func TestTakeShort(t *testing.T) {
	fails(t, nil, api.ErrShort)
	for _, b := range [][]byte{
		{0}, {1}, {0x7F},
		{0, 0}, {0x7F, 0x7F},
		{0x7F, 0x7F, 0x7F}, {0x7F, 0x7F, 0x7F, 0x7F},
		{0, 0, 0, 0, 0},
		{0x7F, 0x7E, 0x7E, 0x7E, 0x0E}, // 2^32 - 1
		{0x00, 0x7F, 0x7E, 0x7E, 0x0E}, // 2^32
		{0x7F, 0x7F, 0x7F, 0x7F, 0x0D},
	} {
		fails(t, b, api.ErrShort)
	}
	for _, k := range known {
		for n := range k.b {
			fails(t, k.b[:n], api.ErrShort)
		}
	}
}

// C1: ErrSize, where bytes up to some one of them say more than 2^32, be there a last one or not, and ahead of ErrShort then.
func TestTakeTooGreat(t *testing.T) {
	for _, b := range [][]byte{
		{0x01, 0x7F, 0x7E, 0x7E, 0x8E}, // 2^32 + 1
		{0x01, 0x7F, 0x7E, 0x7E, 0x0E},
		{0x00, 0x7F, 0x7E, 0x7E, 0x8F},
		{0x00, 0x7F, 0x7E, 0x7E, 0x0F},
		{0x00, 0x7F, 0x7E, 0x7E, 0x0F, 0x80},
		{0x00, 0x7F, 0x7E, 0x7E, 0x0E, 0x80}, // 2^32, and one byte more
		{0x00, 0x7F, 0x7E, 0x7E, 0x0E, 0x00},
		{0x00, 0x00, 0x00, 0x00, 0x8F},
		{0x00, 0x00, 0x00, 0x00, 0x0F},
		{0x7F, 0x7F, 0x7F, 0x7F, 0xFF},
		{0x7F, 0x7F, 0x7F, 0x7F, 0x7F},
		{0, 0, 0, 0, 0, 0x80},
		{0, 0, 0, 0, 0, 0},
	} {
		fails(t, b, api.ErrSize)
	}
}

// C1: a long row is too great, however often its numbers would wrap round, with a last byte and without.
func TestTakeLongRows(t *testing.T) {
	for _, x := range []byte{0, 1, 0x40, 0x7F} {
		for n := 6; n < 90; n++ {
			b := bytes.Repeat([]byte{x}, n)
			fails(t, b, api.ErrSize)
			fails(t, append(b, 0x80), api.ErrSize)
			fails(t, append(b, 0xFF), api.ErrSize)
		}
	}
	fails(t, make([]byte, 1<<20), api.ErrSize)
}

// C1: rows of all shapes answer as the chapter's sums over them do.
func TestTakeAsWritten(t *testing.T) {
	digits := []byte{0x00, 0x01, 0x0E, 0x0F, 0x7E, 0x7F, 0x80, 0x8D, 0x8E, 0x8F, 0xFE, 0xFF}
	seed := uint32(1)
	for range 40000 {
		b := make([]byte, seed>>20%8)
		for i := range b {
			seed = seed*1664525 + 1013904223
			b[i] = digits[seed>>16%uint32(len(digits))]
		}
		seed = seed*1664525 + 1013904223
		u, n, e := plainTake(b)
		r := octet.NewReader(b)
		if got, err := varnum.Take(r); got != u || err != e || r.At() != n {
			t.Fatalf("% X: %d, %v, at %d, not %d, %v, at %d", b, got, err, r.At(), u, e, n)
		}
	}
}

// plainTake tells what is to be taken of at most eight bytes, and the place behind it.
func plainTake(b []byte) (uint64, int, api.Errno) {
	for i, x := range b {
		said := plainSaid(b[:i+1])
		if said > greatest {
			return 0, 0, api.ErrSize
		}
		if x >= 128 {
			return said, i + 1, api.OK
		}
	}
	return 0, 0, api.ErrShort
}

// What follows: there is one writing of each number; bytes that are taken are those that are put.
func TestOneWriting(t *testing.T) {
	seen := map[uint64]bool{}
	for x := range 128 {
		for y := range 256 {
			for _, b := range [][]byte{{byte(x) | 0x80}, {byte(x), byte(y)}, {byte(x), byte(y), 0x81}, {byte(x), 0x7E, 0x7E, byte(y), 0x8D}} {
				r := octet.NewReader(b)
				u, e := varnum.Take(r)
				if e != api.OK {
					continue
				}
				taken := b[:r.At()]
				if again := varnum.Put(u); !bytes.Equal(again, taken) {
					t.Fatalf("% X says %d, whose bytes are % X", taken, u, again)
				}
				seen[u] = true
			}
		}
	}
	// One byte, two, and three with 81 behind, then what the last row has of its own.
	if len(seen) < 128+128*128+128*128 {
		t.Errorf("%d numbers", len(seen))
	}
}

// R1: what Put tells is the caller's, and a reader's bytes are neither changed nor kept.
func TestSharesNothing(t *testing.T) {
	b := varnum.Put(300)
	for i := range b {
		b[i] = 0
	}
	if again := varnum.Put(300); !bytes.Equal(again, []byte{0x2C, 0x81}) {
		t.Errorf("% X", again)
	}
	row := []byte{0x2C, 0x81, 0x83}
	r, other := octet.NewReader(row), octet.NewReader(row)
	if u, e := varnum.Take(r); u != 300 || e != api.OK {
		t.Error(u, e)
	}
	if !bytes.Equal(row, []byte{0x2C, 0x81, 0x83}) {
		t.Errorf("% X", row)
	}
	// Written over, the row is no longer what the readers have.
	clear(row)
	if u, e := varnum.Take(r); u != 3 || e != api.OK || r.Left() != 0 {
		t.Error(u, e)
	}
	// R3: the other reader has not moved.
	if u, e := varnum.Take(other); u != 300 || e != api.OK || other.At() != 2 {
		t.Error(u, e)
	}
}

// C1: a reader goes on as usual behind what was taken, and behind what could not be.
func TestReaderGoesOn(t *testing.T) {
	r := octet.NewReader([]byte{1, 0x00, 0x80, 2, 0x05, 0x06})
	if x, e := r.Byte(); x != 1 || e != api.OK {
		t.Error(x, e)
	}
	if u, e := varnum.Take(r); u != 128 || e != api.OK || r.At() != 3 {
		t.Error(u, e, r.At())
	}
	if x, e := r.Byte(); x != 2 || e != api.OK {
		t.Error(x, e)
	}
	if u, e := varnum.Take(r); u != 0 || e != api.ErrShort || r.At() != 4 {
		t.Error(u, e, r.At())
	}
	if u, e := r.Big(2); u != 0x506 || e != api.OK || r.Left() != 0 {
		t.Error(u, e)
	}
}

// C2: Turn of numbers that are known, the chapter's example and both ends among them.
func TestTurn(t *testing.T) {
	for _, c := range []struct {
		n int64
		u uint64
	}{
		{0, 0}, {1, 2}, {-1, 3}, {2, 4}, {-2, 5}, {3, 6}, {-3, 7}, {-128, 257},
		{1 << 32, 1 << 33}, {-1 << 32, 1<<33 + 1},
		{1 << 62, 1 << 63}, {-1 << 62, 1<<63 + 1},
		{math.MaxInt64 - 1, math.MaxUint64 - 3}, {math.MaxInt64, math.MaxUint64 - 1},
		{-math.MaxInt64, math.MaxUint64},
		{math.MinInt64, 1}, // 2^64 and one more, modulo 2^64
	} {
		if u := varnum.Turn(c.n); u != c.u {
			t.Errorf("Turn(%d): %d, not %d", c.n, u, c.u)
		}
	}
}

// C2: Back of numbers that are known, both ends among them; of 1 it is 0, which has no other side.
func TestBack(t *testing.T) {
	for _, c := range []struct {
		u uint64
		n int64
	}{
		{0, 0}, {1, 0}, {2, 1}, {3, -1}, {4, 2}, {5, -2}, {6, 3}, {7, -3}, {257, -128},
		{1 << 33, 1 << 32}, {1<<33 + 1, -1 << 32},
		{1<<63 - 2, 1<<62 - 1}, {1<<63 - 1, 1 - 1<<62}, {1 << 63, 1 << 62}, {1<<63 + 1, -1 << 62},
		{math.MaxUint64 - 1, math.MaxInt64}, {math.MaxUint64, -math.MaxInt64},
	} {
		if n := varnum.Back(c.u); n != c.n {
			t.Errorf("Back(%d): %d, not %d", c.u, n, c.n)
		}
	}
}

// C2: Back of what was turned is it, but of the least number, which is as far from 0 as 2^64 counts round; and so it is the other way round, but of 1.
func TestTurnAndBack(t *testing.T) {
	for i := range 63 {
		for _, n := range []int64{1 << i, 1<<i - 1, -1 << i, 1 - 1<<i, math.MaxInt64 - 1<<i, 1<<i - math.MaxInt64} {
			if got := varnum.Back(varnum.Turn(n)); got != n {
				t.Errorf("%d: %d", n, got)
			}
		}
		for _, u := range []uint64{1 << (i + 1), 1<<(i+1) + 1, math.MaxUint64 - 1<<i} {
			if got := varnum.Turn(varnum.Back(u)); got != u {
				t.Errorf("%d: %d", u, got)
			}
		}
	}
	if n := varnum.Back(varnum.Turn(math.MinInt64)); n != 0 {
		t.Errorf("the least: %d", n)
	}
	if u := varnum.Turn(varnum.Back(1)); u != 0 {
		t.Errorf("of 1: %d", u)
	}
}

// R4: the same calls have the same answers, whatever was called between them.
func TestSameAgain(t *testing.T) {
	tell := func() string {
		u, e := varnum.Take(octet.NewReader([]byte{5, 6, 0x87}))
		return fmt.Sprint(varnum.Put(99999), u, e, varnum.Turn(-9), varnum.Back(9))
	}
	first := tell()
	varnum.Put(greatest)
	varnum.Put(math.MaxUint64)
	varnum.Take(octet.NewReader([]byte{0, 0}))
	varnum.Turn(math.MinInt64)
	varnum.Back(math.MaxUint64)
	if again := tell(); again != first {
		t.Errorf("%s, then %s", first, again)
	}
}
