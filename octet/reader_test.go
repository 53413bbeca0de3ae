package octet_test

import (
	"bytes"
	"math"
	"testing"

	"picklock/api"
	"picklock/octet"
)

// stands fails unless the reader is at that place, with so many bytes left.
func stands(t *testing.T, r *octet.Reader, at, left int) {
	t.Helper()
	if r.At() != at || r.Left() != left {
		t.Errorf("at %d with %d left, not at %d with %d left", r.At(), r.Left(), at, left)
	}
}

// A1: a new reader is at 0, and has all bytes left.
func TestReaderBegins(t *testing.T) {
	stands(t, octet.NewReader([]byte{5, 6, 7}), 0, 3)
	stands(t, octet.NewReader([]byte{}), 0, 0)
	stands(t, octet.NewReader(nil), 0, 0)
}

// A1: Byte tells byte behind byte, and ErrShort, without moving, at the end.
func TestReaderByte(t *testing.T) {
	r := octet.NewReader([]byte{0, 0x80, 0xFF})
	for i, want := range []byte{0, 0x80, 0xFF} {
		if x, e := r.Byte(); x != want || e != api.OK {
			t.Errorf("byte %d: %d, %v", i, x, e)
		}
		stands(t, r, i+1, 2-i)
	}
	for range 2 {
		if x, e := r.Byte(); x != 0 || e != api.ErrShort {
			t.Error(x, e)
		}
		stands(t, r, 3, 0)
	}
}

// A1: Bytes tells the next n bytes, 0 of them and all of them too.
func TestReaderBytes(t *testing.T) {
	r := octet.NewReader([]byte{1, 2, 3, 4, 5, 6, 7, 8, 9, 10, 11, 12})
	steps := []struct {
		n, at int
		want  []byte
	}{
		{0, 0, nil},
		{2, 2, []byte{1, 2}},
		{0, 2, nil},
		{10, 12, []byte{3, 4, 5, 6, 7, 8, 9, 10, 11, 12}},
		{0, 12, nil},
	}
	for i, s := range steps {
		b, e := r.Bytes(s.n)
		if e != api.OK || !bytes.Equal(b, s.want) {
			t.Errorf("step %d: %v, %v", i, b, e)
		}
		stands(t, r, s.at, 12-s.at)
	}
}

// A1: Big and Little tell a number of every width from 0 to 8.
func TestReaderNumbers(t *testing.T) {
	b := []byte{0xF1, 0xE2, 0xD3, 0xC4, 0xB5, 0xA6, 0x97, 0x88, 0x79}
	big := []uint64{0, 0xF1, 0xF1E2, 0xF1E2D3, 0xF1E2D3C4, 0xF1E2D3C4B5, 0xF1E2D3C4B5A6, 0xF1E2D3C4B5A697, 0xF1E2D3C4B5A69788}
	little := []uint64{0, 0xF1, 0xE2F1, 0xD3E2F1, 0xC4D3E2F1, 0xB5C4D3E2F1, 0xA6B5C4D3E2F1, 0x97A6B5C4D3E2F1, 0x8897A6B5C4D3E2F1}
	for n := range 9 {
		r := octet.NewReader(b)
		if u, e := r.Big(n); u != big[n] || e != api.OK {
			t.Errorf("Big(%d): %X, %v", n, u, e)
		}
		stands(t, r, n, 9-n)
		r = octet.NewReader(b)
		if u, e := r.Little(n); u != little[n] || e != api.OK {
			t.Errorf("Little(%d): %X, %v", n, u, e)
		}
		stands(t, r, n, 9-n)
	}
}

// A1: numbers are read from the place on, one behind the other.
func TestReaderNumbersFollow(t *testing.T) {
	r := octet.NewReader([]byte{9, 0, 1, 0x2C, 0x2C, 1, 0, 7})
	if x, e := r.Byte(); x != 9 || e != api.OK {
		t.Error(x, e)
	}
	if u, e := r.Big(3); u != 300 || e != api.OK {
		t.Error(u, e)
	}
	if u, e := r.Little(3); u != 300 || e != api.OK {
		t.Error(u, e)
	}
	stands(t, r, 7, 1)
}

// A1: of ErrArg and ErrShort the first that applies, with nothing else told (R5), and the place stays.
func TestReaderErrors(t *testing.T) {
	cases := []struct {
		n             int
		bytes, number api.Errno
	}{
		{math.MinInt, api.ErrArg, api.ErrArg},
		{-9, api.ErrArg, api.ErrArg},
		{-1, api.ErrArg, api.ErrArg},
		{4, api.ErrShort, api.ErrShort},
		{8, api.ErrShort, api.ErrShort},
		{9, api.ErrShort, api.ErrArg},
		{math.MaxInt, api.ErrShort, api.ErrArg},
	}
	for _, at := range []int{0, 1, 3} {
		r := octet.NewReader([]byte{0x11, 0x22, 0x33})
		if _, e := r.Bytes(at); e != api.OK {
			t.Fatal(e)
		}
		for _, c := range cases {
			if b, e := r.Bytes(c.n); len(b) != 0 || e != c.bytes {
				t.Errorf("Bytes(%d) at %d: %v, %v", c.n, at, b, e)
			}
			if u, e := r.Big(c.n); u != 0 || e != c.number {
				t.Errorf("Big(%d) at %d: %d, %v", c.n, at, u, e)
			}
			if u, e := r.Little(c.n); u != 0 || e != c.number {
				t.Errorf("Little(%d) at %d: %d, %v", c.n, at, u, e)
			}
			stands(t, r, at, 3-at)
		}
	}
}

// A1: too wide a number is ErrArg also where as many bytes are left; as many bytes are told by Bytes.
func TestReaderTooWide(t *testing.T) {
	r := octet.NewReader(make([]byte, 20))
	if u, e := r.Big(9); u != 0 || e != api.ErrArg {
		t.Error(u, e)
	}
	if u, e := r.Little(9); u != 0 || e != api.ErrArg {
		t.Error(u, e)
	}
	stands(t, r, 0, 20)
	if b, e := r.Bytes(9); len(b) != 9 || e != api.OK {
		t.Error(b, e)
	}
}

// A1: what is left is told still, behind an error.
func TestReaderGoesOnBehindErrors(t *testing.T) {
	r := octet.NewReader([]byte{1, 2})
	r.Big(3)
	r.Little(-1)
	r.Bytes(3)
	if u, e := r.Big(2); u != 0x0102 || e != api.OK {
		t.Error(u, e)
	}
}

// R1: what was handed in stays, and may be written over; so may what was told.
func TestReaderSharesNothing(t *testing.T) {
	b := []byte{1, 2, 3, 4}
	r := octet.NewReader(b)
	b[0], b[3] = 91, 94
	first, _ := r.Bytes(2)
	if !bytes.Equal(first, []byte{1, 2}) {
		t.Error("what was handed in is kept:", first)
	}
	first[0], first[1] = 81, 82
	first = append(first, 83, 84)
	first[2] = 85
	if rest, e := r.Bytes(2); e != api.OK || !bytes.Equal(rest, []byte{3, 4}) {
		t.Error("what was told is kept:", rest, e)
	}
	if !bytes.Equal(b, []byte{91, 2, 3, 94}) {
		t.Error("what was handed in has changed:", b)
	}
}

// R3: readers of the same bytes have places of their own.
func TestReadersApart(t *testing.T) {
	b := []byte{1, 2, 3}
	r, s := octet.NewReader(b), octet.NewReader(b)
	r.Bytes(2)
	stands(t, s, 0, 3)
	if x, e := s.Byte(); x != 1 || e != api.OK {
		t.Error(x, e)
	}
	stands(t, r, 2, 1)
}
