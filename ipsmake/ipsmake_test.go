package ipsmake_test

import (
	"bytes"
	"testing"

	"picklock/api"
	"picklock/ips"
	"picklock/ipsmake"
)

const (
	// most is how many bytes there are at most.
	most = 1 << 24
	// eof is the place that spells `EOF`.
	eof = 0x454F46
	// widest is how many bytes a record can tell.
	widest = 65535
)

// numbers is a row of numbers that looks like chance, but is always the same.
type numbers uint32

// below tells a number below n.
func (x *numbers) below(n int) int {
	*x = *x*1664525 + 1013904223
	return int(uint64(*x) * uint64(n) >> 32)
}

// unlike are n bytes of which no two neighbours are the same, and none is 0.
func unlike(n int) []byte {
	x := numbers(7)
	b := make([]byte, n)
	prev := 0
	for i := range b {
		prev = (prev+x.below(253))%255 + 1
		b[i] = byte(prev)
	}
	return b
}

func alike(n int, c byte) []byte { return bytes.Repeat([]byte{c}, n) }

// over is a copy of a with s laid over it from a place on; it is longer if s reaches behind the end.
func over(a []byte, at int, s []byte) []byte {
	b := make([]byte, max(len(a), at+len(s)))
	copy(b, a)
	copy(b[at:], s)
	return b
}

func differing(a, b []byte) int {
	n := 0
	for i := range b {
		if i >= len(a) || a[i] != b[i] {
			n++
		}
	}
	return n
}

// created is for two of which a patch can be made.
func created(t *testing.T, a, b []byte) []byte {
	t.Helper()
	p, e := ipsmake.Create(a, b)
	if e != api.OK {
		t.Errorf("%d and %d bytes: %v", len(a), len(b), e)
	}
	return p
}

func checkRecords(t *testing.T, p []byte, a, b []byte) {
	t.Helper()
	l, cut, e := ips.Parse(p)
	if e != api.OK {
		t.Errorf("%d and %d bytes: %v", len(a), len(b), e)
	}
	want := -1
	if len(b) < len(a) {
		want = len(b)
	}
	if cut != want {
		t.Errorf("%d and %d bytes: cut to %d instead of %d", len(a), len(b), cut, want)
	}
	end := 0
	for _, r := range l {
		if r.At == eof {
			t.Errorf("%d and %d bytes: a record at EOF", len(a), len(b))
		}
		if r.At < end {
			t.Errorf("%d and %d bytes: a record at %d, the one ahead ends at %d", len(a), len(b), r.At, end)
		}
		end = r.At + max(r.Run, len(r.Data))
	}
	if end > len(b) {
		t.Errorf("%d and %d bytes: a record ends at %d", len(a), len(b), end)
	}
}

// holds checks all that E1 promises of the patch of a and b, and tells it.
func holds(t *testing.T, a, b []byte) []byte {
	t.Helper()
	p := created(t, a, b)
	if out, e := ips.Apply(p, a); !bytes.Equal(out, b) || e != api.OK {
		t.Errorf("%d and %d bytes: Apply makes %d others, %v", len(a), len(b), len(out), e)
	}
	checkRecords(t, p, a, b)
	if n := 14 + 6*differing(a, b); len(p) > n {
		t.Errorf("%d and %d bytes: a patch of %d bytes, more than %d", len(a), len(b), len(p), n)
	}
	return p
}

// E1: the chapter's example, and ordinary rows.
func TestOrdinary(t *testing.T) {
	if p := holds(t, []byte("abc"), []byte("aXc")); len(p) != 14 {
		t.Errorf("%q", p)
	}
	for _, x := range []struct{ a, b string }{
		{"abc", "Xbc"}, {"abc", "abX"}, {"abc", "XYZ"}, {"abc", "XbZ"},
		{"abc", "ab"}, {"abc", "aX"}, {"abc", "abcd"}, {"abc", "aXcd"}, {"abc", "XXXXXXXXXXXXXXXX"},
		{"one row of bytes", "another row of bytes"},
		{"aaaaaaaaaaaaaaaa", "aaaabbbbbbbbaaaa"},
		{"aaaaaaaaaaaaaaaaaaaaaaaaaaaa", "aaxyzbbbbbbbbbbbbbbbbbbbbzyxaa"},
	} {
		holds(t, []byte(x.a), []byte(x.b))
	}
}

// E1: one or both are empty.
func TestEmpty(t *testing.T) {
	for _, x := range []struct{ a, b []byte }{
		{nil, []byte("a")}, {[]byte("a"), nil}, {[]byte{}, []byte("abc")}, {[]byte("abc"), []byte{}},
		{nil, make([]byte, 1)}, {nil, make([]byte, 300)}, {make([]byte, 300), nil}, {nil, []byte("EOF")}, {[]byte("PATCHEOF"), nil},
	} {
		holds(t, x.a, x.b)
	}
	if p := holds(t, []byte("abc"), nil); string(p) != "PATCHEOF\x00\x00\x00" {
		t.Errorf("%q", p)
	}
}

// What follows: of two that are the same it is PATCHEOF.
func TestSame(t *testing.T) {
	for _, a := range [][]byte{nil, {}, {0}, []byte("abc"), unlike(100000), make([]byte, 70000), unlike(eof + 9), make([]byte, most)} {
		if p := holds(t, a, bytes.Clone(a)); string(p) != "PATCHEOF" {
			t.Errorf("%d bytes: %d bytes, %.30q", len(a), len(p), p)
		}
	}
	if p := created(t, []byte{}, nil); string(p) != "PATCHEOF" {
		t.Errorf("%q", p)
	}
}

// E1: ErrLarge and nothing else of more than 2^24 bytes.
func TestLarge(t *testing.T) {
	big := make([]byte, most+1)
	for i, x := range []struct{ a, b []byte }{{big, nil}, {nil, big}, {big, big}, {big, big[:most]}, {big[:most], big}, {big, []byte("abc")}} {
		if p, e := ipsmake.Create(x.a, x.b); len(p) != 0 || e != api.ErrLarge {
			t.Errorf("%d: %d bytes, %v", i, len(p), e)
		}
	}
}

// E1: just 2^24 bytes are not too many.
func TestJustNotLarge(t *testing.T) {
	zeros := make([]byte, most)
	holds(t, zeros, over(zeros, most-1, []byte("X")))
	holds(t, zeros, over(zeros, most-3, []byte("XYZ")))
	holds(t, zeros, over(zeros, 0, []byte("X")))
	holds(t, zeros, alike(most, 'X'))
	holds(t, nil, zeros)
	if p := holds(t, zeros, nil); string(p) != "PATCHEOF\x00\x00\x00" {
		t.Errorf("%q", p)
	}
	if p := holds(t, zeros, zeros[:most-1]); string(p) != "PATCHEOF\xFF\xFF\xFF" {
		t.Errorf("%q", p)
	}
}

// E1: Apply takes no patch of more than 2^24 bytes, so a patch must not be much longer than it needs to be.
func TestFits(t *testing.T) {
	zeros := make([]byte, most)
	apart := make([]byte, 12000000)
	for i := 0; i < len(apart); i += 2 {
		apart[i] = byte(i%255 + 1)
	}
	holds(t, zeros[:len(apart)], apart)
	stretches := []byte("xyz")
	for i := 0; len(stretches) < most; i++ {
		stretches = append(stretches, alike(12, byte(i%2+1))...)
	}
	holds(t, nil, stretches[:most])
	// The longest of unlike bytes that a patch can hold: 256 records, and 8 bytes around them.
	longest := unlike(most - 256*5 - 8)
	if p := holds(t, nil, longest); len(p) != most {
		t.Errorf("%d bytes", len(p))
	}
}

// E1: of unlike bytes more than a patch of 2^24 bytes can hold there is one still; Apply refuses it.
func TestFitsNot(t *testing.T) {
	b := unlike(most)
	p := created(t, nil, b)
	if !bytes.HasPrefix(p, []byte("PATCH")) || !bytes.HasSuffix(p, []byte("EOF")) || len(p) > 14+6*most {
		t.Errorf("%d bytes, %.30q", len(p), p)
	}
	if out, e := ips.Apply(p, nil); len(out) != 0 || e != api.ErrLarge {
		t.Errorf("%d bytes, %v", len(out), e)
	}
}

// E1: no record at 454F46, whatever is changed there, ahead of it and behind it.
func TestEOF(t *testing.T) {
	a := make([]byte, eof+40)
	for from := eof - 10; from <= eof+2; from++ {
		for _, n := range []int{1, 2, 4, 15, 30} {
			holds(t, a, over(a, from, unlike(n)))
			holds(t, a, over(a, from, alike(n, 'X')))
			holds(t, a, over(over(a, from, alike(n, 'X')), eof, []byte("Y")))
			holds(t, a, over(over(a, from, unlike(n)), eof, alike(20, 'Y')))
		}
	}
	for _, s := range []string{"X\x00Y", "\x00X\x00", "X\x00\x00", "\x00\x00X", "XX\x00", "X\x00\x00\x00X"} {
		for from := eof - 4; from <= eof; from++ {
			holds(t, a, over(a, from, []byte(s)))
		}
	}
}

// E1: rows that are parted at 454F46, or next to it, since no record is so long.
func TestEOFParted(t *testing.T) {
	a := make([]byte, eof+2*widest)
	for _, from := range []int{eof - 2*widest - 1, eof - 2*widest, eof - 2*widest + 1, eof - widest - 1, eof - widest, eof - widest + 1} {
		for _, to := range []int{eof - 1, eof, eof + 1, eof + 2, eof + 20, eof + widest, eof + widest + 1} {
			holds(t, a, over(a, from, unlike(to-from)))
			holds(t, a, over(a, from, alike(to-from, 'X')))
		}
		holds(t, a, over(over(a, from, []byte("X")), eof, []byte("Y")))
		holds(t, a, over(over(a, from, []byte("X")), eof-1, []byte("XY")))
		holds(t, a, over(over(a, from, alike(widest, 'X')), eof, []byte("Y")))
	}
}

// E1: the end of a lies at 454F46 or next to it; or the end of b does.
func TestEOFBehind(t *testing.T) {
	for n := eof - 3; n <= eof+2; n++ {
		a := make([]byte, n)
		for _, more := range []int{1, 2, 3, 4, 30} {
			holds(t, a, over(a, n, unlike(more)))
			holds(t, a, over(a, n, alike(more, 'X')))
			holds(t, a, make([]byte, n+more))
			holds(t, over(a, n, unlike(more)), over(a, n-1, []byte("X")))
		}
		holds(t, nil, a)
		holds(t, a[:eof-widest-2], over(a, eof-widest-2, unlike(n+2-(eof-widest-2))))
		holds(t, a[:eof-widest], alike(n, 'X'))
	}
}

// E1: a long run up to 454F46 stays a short record, though none can begin at its end.
func TestEOFRun(t *testing.T) {
	a := make([]byte, eof+100)
	for from := eof - 60000; from < eof-59990; from++ {
		b := over(over(a, from, alike(eof-from, 'X')), eof, unlike(10))
		if p := holds(t, a, b); len(p) > 100 {
			t.Errorf("from %d: %d bytes", from, len(p))
		}
	}
}

// E1: cut just if b is shorter, to its length.
func TestLengths(t *testing.T) {
	a := unlike(600)
	for _, n := range []int{0, 1, 2, 255, 256, 257, 598, 599, 600, 601, 602, 1200} {
		b := make([]byte, n)
		copy(b, a)
		holds(t, a, b)
		holds(t, b, a)
		if n > 0 {
			b[n-1] ^= 1
		}
		holds(t, a, b)
		holds(t, b, a)
		holds(t, alike(600, 'X'), alike(n, 'X'))
		holds(t, alike(600, 'X'), alike(n, 'Y'))
	}
}

// E1: not more than 14 bytes, and 6 for each that differs, be they next to each other or some apart.
func TestApart(t *testing.T) {
	for apart := 1; apart <= 16; apart++ {
		for _, n := range []int{1, 2, 3, 20, 5000, 70000, 200000} {
			a := make([]byte, n*2)
			likes, unlikes := make([]byte, n), make([]byte, n)
			other := unlike(n)
			for i := 0; i < n; i += apart {
				likes[i], unlikes[i] = 'X', other[i]
			}
			// With a cut, and without one.
			holds(t, a, likes)
			holds(t, a, unlikes)
			holds(t, a[:n], likes)
			holds(t, a[:n], unlikes)
			holds(t, likes, a[:n])
			holds(t, unlikes, a)
		}
	}
}

// E1: rows that are longer than a record can tell.
func TestLong(t *testing.T) {
	for _, n := range []int{widest - 1, widest, widest + 1, 2*widest - 1, 2 * widest, 2*widest + 1, 5*widest + 1, 1 << 20} {
		for _, from := range []int{0, 1, 100} {
			a := make([]byte, from+n+10)
			holds(t, a, over(a, from, unlike(n)))
			holds(t, a[:from], over(a[:from], from, unlike(n)))
			holds(t, a[:from], a[:from+n])
			if p := holds(t, a, over(a, from, alike(n, 'X'))); len(p) > 200 {
				t.Errorf("%d times a byte: %d bytes", n, len(p))
			}
		}
	}
}

// E1: rows that look like chance, of few bytes, so that some are the same and some come often.
func TestMany(t *testing.T) {
	x := numbers(1)
	random := func(n, kinds, times int) []byte {
		var b []byte
		for len(b) < n {
			b = append(b, alike(1+x.below(times), byte(x.below(kinds)))...)
		}
		return b[:n]
	}
	for range 20000 {
		kinds := 1 + x.below(4)
		a := random(x.below(80), kinds, 1+x.below(20))
		b := random(x.below(80), kinds, 1+x.below(20))
		for i := 0; i < min(len(a), len(b)); i++ {
			if x.below(3) > 0 {
				b[i] = a[i]
			}
		}
		holds(t, a, b)
	}
}

// R1: nothing that was handed in is changed or kept, and the patch is the caller's. R4: of the same the same.
func TestOwn(t *testing.T) {
	a, b := []byte("some bytes, xxxxxxxxxxxxxxxxxxxxxxx, and more of them"), []byte("some bits, yyyyyyyyyyyyyyyyyyyyyyyyyyyy, and less")
	wasA, wasB := bytes.Clone(a), bytes.Clone(b)
	p := holds(t, a, b)
	was := bytes.Clone(p)
	if !bytes.Equal(a, wasA) || !bytes.Equal(b, wasB) {
		t.Error("what was handed in is changed")
	}
	q := created(t, a, b)
	if !bytes.Equal(q, was) {
		t.Error("of the same another patch")
	}
	clear(p)
	if !bytes.Equal(q, was) || !bytes.Equal(a, wasA) || !bytes.Equal(b, wasB) {
		t.Error("a patch that is written over changes others")
	}
	clear(a)
	clear(b)
	if !bytes.Equal(q, was) {
		t.Error("the patch shares bytes with what was handed in")
	}
	if !bytes.Equal(created(t, wasA, wasB), was) {
		t.Error("of the same another patch, later")
	}
}

// R1: bytes that lie behind those that were handed in are not touched, and not looked at.
func TestBehind(t *testing.T) {
	a, b := unlike(100), unlike(200)
	wasA, wasB := bytes.Clone(a), bytes.Clone(b)
	holds(t, a[:30], b[:20])
	p := holds(t, a[10:20], b[60:90])
	if !bytes.Equal(a, wasA) || !bytes.Equal(b, wasB) {
		t.Error("bytes are changed")
	}
	if q := created(t, bytes.Clone(a[10:20]), bytes.Clone(b[60:90])); !bytes.Equal(p, q) {
		t.Error("of the same another patch")
	}
}
