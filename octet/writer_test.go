package octet_test

import (
	"bytes"
	"math"
	"testing"

	"picklock/api"
	"picklock/octet"
)

// holds fails unless the writer has just those bytes.
func holds(t *testing.T, w *octet.Writer, want ...byte) {
	t.Helper()
	if b := w.Done(); !bytes.Equal(b, want) || w.Len() != len(want) {
		t.Errorf("% X (%d), not % X (%d)", b, w.Len(), want, len(want))
	}
}

// A2: a zero writer has no bytes.
func TestWriterBegins(t *testing.T) {
	var w octet.Writer
	holds(t, &w)
	holds(t, w.Byte(7), 7)
}

// A2: bytes go to the end.
func TestWriterBytes(t *testing.T) {
	w := &octet.Writer{}
	holds(t, w.Byte(0), 0)
	holds(t, w.Byte(0xFF), 0, 0xFF)
	holds(t, w.Bytes([]byte{3, 4, 5}), 0, 0xFF, 3, 4, 5)
	holds(t, w.Bytes(nil), 0, 0xFF, 3, 4, 5)
	holds(t, w.Bytes([]byte{}), 0, 0xFF, 3, 4, 5)
	holds(t, w.Byte(6), 0, 0xFF, 3, 4, 5, 6)
}

// A2: the lowest n bytes of a number, in both orders, for every n from 0 to 8.
func TestWriterNumbers(t *testing.T) {
	const u = 0xF1E2D3C4B5A69788
	big := []byte{0xF1, 0xE2, 0xD3, 0xC4, 0xB5, 0xA6, 0x97, 0x88}
	little := []byte{0x88, 0x97, 0xA6, 0xB5, 0xC4, 0xD3, 0xE2, 0xF1}
	for n := range 9 {
		holds(t, new(octet.Writer).Big(u, n), big[8-n:]...)
		holds(t, new(octet.Writer).Little(u, n), little[:n]...)
	}
}

// A2: the chapter's example, and a number with fewer bytes than are written.
func TestWriterNoughts(t *testing.T) {
	holds(t, new(octet.Writer).Big(300, 3), 0, 1, 0x2C)
	holds(t, new(octet.Writer).Little(300, 3), 0x2C, 1, 0)
}

// A2: n below 0 counts as 0, above 8 as 8.
func TestWriterWidths(t *testing.T) {
	for _, n := range []int{math.MinInt, -8, -1, 0} {
		holds(t, new(octet.Writer).Byte(1).Big(0x0203, n).Little(0x0405, n), 1)
	}
	for _, n := range []int{8, 9, 64, math.MaxInt} {
		holds(t, new(octet.Writer).Big(0x0203, n), 0, 0, 0, 0, 0, 0, 2, 3)
		holds(t, new(octet.Writer).Little(0x0203, n), 3, 2, 0, 0, 0, 0, 0, 0)
	}
}

// A2: each call that writes tells the writer itself.
func TestWriterChains(t *testing.T) {
	w := &octet.Writer{}
	told := []*octet.Writer{
		w.Byte(1),
		w.Bytes([]byte{2}),
		w.Bytes(nil),
		w.Big(3, 1),
		w.Big(3, -1),
		w.Little(4, 1),
		w.Little(4, 0),
	}
	for i, v := range told {
		if v != w {
			t.Errorf("call %d tells another writer", i)
		}
	}
	holds(t, w.Byte(5).Bytes([]byte{6, 7}).Big(0x0809, 2).Little(0x0B0A, 2), 1, 2, 3, 4, 5, 6, 7, 8, 9, 10, 11)
}

// R1: what was handed in stays, and may be written over; so may what was told.
func TestWriterSharesNothing(t *testing.T) {
	b := make([]byte, 3, 16)
	copy(b, []byte{1, 2, 3})
	w := new(octet.Writer).Bytes(b)
	b[0] = 91
	holds(t, w, 1, 2, 3)
	w.Byte(4)
	if !bytes.Equal(b[:4], []byte{91, 2, 3, 0}) {
		t.Error("what was handed in has changed:", b[:4])
	}
	d := w.Done()
	d[0] = 81
	_ = append(d, 82)
	holds(t, w, 1, 2, 3, 4)
	w.Byte(5)
	if !bytes.Equal(d, []byte{81, 2, 3, 4}) {
		t.Error("what was told has changed:", d)
	}
	holds(t, w, 1, 2, 3, 4, 5)
	holds(t, w.Bytes(w.Done()), 1, 2, 3, 4, 5, 1, 2, 3, 4, 5)
}

// R3: writers have bytes of their own.
func TestWritersApart(t *testing.T) {
	b := []byte{1, 2}
	v, w := new(octet.Writer).Bytes(b), new(octet.Writer).Bytes(b)
	v.Byte(3)
	holds(t, w.Byte(4), 1, 2, 4)
	holds(t, v, 1, 2, 3)
}

// What follows of A1 and A2: what was written is read.
func TestWrittenIsRead(t *testing.T) {
	numbers := []uint64{0, 1, 0x7F, 0x80, 0xFF, 0x100, 0xFFFF, 0x10000, 1 << 31, 1 << 32, 1<<56 - 1, 1 << 56, 1 << 63, math.MaxUint64, 0x0123456789ABCDEF}
	for n := range 9 {
		w := &octet.Writer{}
		for _, u := range numbers {
			w.Byte(byte(u)).Big(u, n).Little(u, n).Bytes([]byte{byte(n), byte(u)})
		}
		r := octet.NewReader(w.Done())
		for _, u := range numbers {
			low := u
			if n < 8 {
				low = u & (1<<(8*n) - 1)
			}
			x, e1 := r.Byte()
			big, e2 := r.Big(n)
			little, e3 := r.Little(n)
			b, e4 := r.Bytes(2)
			if e1 != api.OK || e2 != api.OK || e3 != api.OK || e4 != api.OK {
				t.Fatal(e1, e2, e3, e4)
			}
			if x != byte(u) || big != low || little != low || !bytes.Equal(b, []byte{byte(n), byte(u)}) {
				t.Errorf("%X by %d bytes: %X, %X, %X, % X", u, n, x, big, little, b)
			}
		}
		stands(t, r, w.Len(), 0)
	}
}
