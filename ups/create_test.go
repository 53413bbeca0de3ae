package ups_test

import (
	"bytes"
	"strings"
	"testing"

	"picklock/api"
	"picklock/ups"
)

// created is for two of which a patch can be made.
func created(t *testing.T, a, b string) []byte {
	t.Helper()
	p, e := ups.Create([]byte(a), []byte(b))
	if e != api.OK {
		t.Errorf("%d and %d bytes: %v", len(a), len(b), e)
	}
	return p
}

// creates is for two whose patch has just these hunks, and leads both ways.
func creates(t *testing.T, a, b string, hunks ...string) {
	t.Helper()
	p := created(t, a, b)
	if want := patch(a, b, hunks...); !bytes.Equal(p, want) {
		t.Errorf("%.30q and %.30q: %.80q instead of %.80q", a, b, p, want)
	}
	bothWays(t, p, a, b)
}

// changed is s with other bytes at these places.
func changed(s string, places ...int) string {
	b := []byte(s)
	for _, at := range places {
		b[at] ^= 'X'
	}
	return string(b)
}

// plainHunks tells the hunks of a and b as F2 has them: place by place, each looked at by itself.
func plainHunks(a, b string) string {
	byteAt := func(s string, at int) byte {
		if at < len(s) {
			return s[at]
		}
		return 0
	}
	var out string
	skipped := uint64(0)
	for at := 0; at < max(len(a), len(b)); at++ {
		var row string
		for at < max(len(a), len(b)) && byteAt(a, at) != byteAt(b, at) {
			row += string([]byte{byteAt(a, at) ^ byteAt(b, at)})
			at++
		}
		if row == "" {
			skipped++
			continue
		}
		out += hunk(skipped, row)
		skipped = 0
	}
	return out
}

// F2: the patch, byte by byte as F1 describes it, of the chapter's example; the sums are known ones.
func TestExample(t *testing.T) {
	want := "UPS1\x82\x82\x81\x3A\x00" + "\x6D\x48\x83\x9E" + "\xDF\x91\x8F\x58"
	if p := created(t, "ab", "aX"); !bytes.Equal(p, signed(want)) {
		t.Errorf("%X instead of %X", p, signed(want))
	}
	creates(t, "ab", "aX", "\x81\x3A\x00")
}

// F2: a hunk for each row, as long as may be; the byte 0 behind a row takes the place that stays.
func TestRows(t *testing.T) {
	a := "0123456789abcdef"
	for _, c := range []struct {
		places []int
		hunks  []string
	}{
		{[]int{0}, []string{hunk(0, "X")}},
		{[]int{1}, []string{hunk(1, "X")}},
		{[]int{14}, []string{hunk(14, "X")}},
		{[]int{15}, []string{hunk(15, "X")}},
		{[]int{0, 1}, []string{hunk(0, "XX")}},
		{[]int{14, 15}, []string{hunk(14, "XX")}},
		// Apart by one place, by two, by three and by many.
		{[]int{0, 2}, []string{hunk(0, "X"), hunk(0, "X")}},
		{[]int{0, 3}, []string{hunk(0, "X"), hunk(1, "X")}},
		{[]int{0, 4}, []string{hunk(0, "X"), hunk(2, "X")}},
		{[]int{0, 15}, []string{hunk(0, "X"), hunk(13, "X")}},
		{[]int{3, 4, 6, 7}, []string{hunk(3, "XX"), hunk(0, "XX")}},
		{[]int{3, 4, 7, 8, 9}, []string{hunk(3, "XX"), hunk(1, "XXX")}},
		{[]int{1, 3, 5, 8, 9, 15}, []string{hunk(1, "X"), hunk(0, "X"), hunk(0, "X"), hunk(1, "XX"), hunk(4, "X")}},
		{[]int{0, 1, 2, 3, 4, 5, 6, 7, 8, 9, 10, 11, 12, 13, 14, 15}, []string{hunk(0, "XXXXXXXXXXXXXXXX")}},
	} {
		creates(t, a, changed(a, c.places...), c.hunks...)
		creates(t, changed(a, c.places...), a, c.hunks...)
	}
}

// F2: what is skipped has two bytes and more where it must.
func TestFarRows(t *testing.T) {
	for _, n := range []int{126, 127, 128, 129, 255, 256, 16511, 16512, 16513, 70000, 2113663, 2113664} {
		a := nulls(n + 2)
		creates(t, a, changed(a, n), hunk(uint64(n), "X"))
		creates(t, a, changed(a, 0, n), hunk(0, "X"), hunk(uint64(n)-2, "X"))
		creates(t, a[:n], a[:n]+"Y", hunk(uint64(n), "Y"))
	}
}

// F2: a row of the same byte, or of all bytes but 0, is one hunk however long it is.
func TestLongRows(t *testing.T) {
	var all string
	for x := 1; x < 256; x++ {
		all += string([]byte{byte(x)})
	}
	creates(t, nulls(255), all, hunk(0, all))
	for _, n := range []int{127, 128, 65535, 65536, 1 << 20} {
		creates(t, strings.Repeat("a", n), strings.Repeat("b", n), hunk(0, strings.Repeat("\x03", n)))
		creates(t, strings.Repeat("a", n), "", hunk(0, strings.Repeat("a", n)))
	}
}

// F2: a place that one of both has not counts as 0.
func TestLengths(t *testing.T) {
	for _, c := range []struct {
		a, b  string
		hunks []string
	}{
		{"abc", "abcde", []string{hunk(3, "de")}},
		{"abc", "abXde", []string{hunk(2, "\x3Bde")}},
		{"abc", "Xbcde", []string{hunk(0, "\x39"), hunk(1, "de")}},
		// Noughts behind the end of the shorter one do not differ.
		{"ab", "ab\x00", nil},
		{"ab", "ab\x00\x00\x00", nil},
		{"", "\x00", nil},
		{"", nulls(300), nil},
		{"ab", "ab\x00c", []string{hunk(3, "c")}},
		{"ab", "ab\x00\x00c\x00", []string{hunk(4, "c")}},
		{"ab", "abc\x00d", []string{hunk(2, "c"), hunk(0, "d")}},
		{"ab", "aX\x00", []string{hunk(1, "\x3A")}},
		{"ab", "aX\x00Y", []string{hunk(1, "\x3A"), hunk(0, "Y")}},
		{"a\x00", "a\x00\x00b", []string{hunk(3, "b")}},
	} {
		creates(t, c.a, c.b, c.hunks...)
		creates(t, c.b, c.a, c.hunks...)
	}
}

// F2: one or both are empty, be they nil or not.
func TestEmpty(t *testing.T) {
	creates(t, "", "")
	creates(t, "", "a", hunk(0, "a"))
	creates(t, "abc", "", hunk(0, "abc"))
	creates(t, "", "\x00a\x00\x00b", hunk(1, "a"), hunk(1, "b"))
	want := raw("\x80\x80", "", "")
	for _, x := range []struct{ a, b []byte }{{nil, nil}, {nil, []byte{}}, {[]byte{}, nil}, {[]byte{}, []byte{}}} {
		if p, e := ups.Create(x.a, x.b); !bytes.Equal(p, want) || e != api.OK {
			t.Errorf("%q, %v", p, e)
		}
		for _, y := range [][]byte{x.a, x.b} {
			if out, e := ups.Apply(want, y); len(out) != 0 || e != api.OK {
				t.Errorf("%q, %v", out, e)
			}
		}
	}
	for _, none := range [][]byte{nil, {}} {
		if p, e := ups.Create(none, []byte("a")); !bytes.Equal(p, patch("", "a", hunk(0, "a"))) || e != api.OK {
			t.Errorf("%q, %v", p, e)
		}
		if p, e := ups.Create([]byte("a"), none); !bytes.Equal(p, patch("a", "", hunk(0, "a"))) || e != api.OK {
			t.Errorf("%q, %v", p, e)
		}
	}
}

// F2: of two that are the same there is no hunk.
func TestSame(t *testing.T) {
	for _, s := range []string{"", "\x00", "a", "ab", "UPS1", nulls(127), nulls(128), nulls(70000), strings.Repeat("xyz", 10000)} {
		creates(t, s, s)
	}
}

// F2: sizes of one byte, of two, of three and of four, and each in its own place.
func TestSizes(t *testing.T) {
	for _, n := range []int{127, 128, 16511, 16512, 2113663, 2113664} {
		creates(t, nulls(n), nulls(5))
		creates(t, nulls(5), nulls(n))
	}
}

// F2: ErrLarge, and nothing else, if one of both has more than 2^24 bytes.
func TestCreateLarge(t *testing.T) {
	big := make([]byte, most+1)
	for i, x := range []struct{ a, b []byte }{{big, nil}, {nil, big}, {big, big}, {big, big[:most]}, {big[:most], big}, {big, []byte("abc")}, {[]byte("abc"), big}} {
		if p, e := ups.Create(x.a, x.b); len(p) != 0 || e != api.ErrLarge {
			t.Errorf("%d: %d bytes, %v", i, len(p), e)
		}
	}
}

// F2: of just 2^24 bytes there is a patch.
func TestCreateJustNotLarge(t *testing.T) {
	zeros := nulls(most)
	creates(t, zeros, changed(zeros, 0), hunk(0, "X"))
	creates(t, zeros, changed(zeros, most-1), hunk(most-1, "X"))
	creates(t, zeros, "", "")
	creates(t, "abc", zeros, hunk(0, "abc"))
}

// F2: a patch that is longer than Apply takes is made still, since F2 speaks of the size of a and b alone.
func TestCreateLong(t *testing.T) {
	zeros, other := nulls(most), strings.Repeat("X", most)
	want := patch(zeros, other, hunk(0, other))
	if p := created(t, zeros, other); !bytes.Equal(p, want) {
		t.Errorf("%d bytes, %.40q", len(p), p)
	}
	fails(t, want, zeros, api.ErrLarge)
	// Of one hunk the longest that Apply takes.
	n := most - len(patch(zeros, zeros, hunk(0, "")))
	creates(t, zeros[:n], other[:n], hunk(0, other[:n]))
	if p := created(t, zeros[:n], other[:n]); len(p) != most {
		t.Errorf("%d bytes", len(p))
	}
	// Bytes that are apart by one place.
	apart := strings.Repeat("X\x00", most/2)
	if p, want := created(t, zeros, apart), patch(zeros, apart, strings.Repeat("\x80X\x00", most/2)); !bytes.Equal(p, want) {
		t.Errorf("%d bytes, %.40q", len(p), p)
	}
}

// F2, and what follows: rows that look like chance, of few bytes, so that many places are the same.
func TestCreateMany(t *testing.T) {
	x := numbers(1)
	for range 20000 {
		kinds := 1 + x.below(4)
		a, b := x.bytes(x.below(60), kinds), x.bytes(x.below(60), kinds)
		for i := range min(len(a), len(b)) {
			if x.below(3) > 0 {
				b[i] = a[i]
			}
		}
		creates(t, string(a), string(b), plainHunks(string(a), string(b)))
	}
	for range 20 {
		a, b := x.bytes(x.below(40000), 256), x.bytes(x.below(40000), 256)
		creates(t, string(a), string(b), plainHunks(string(a), string(b)))
	}
}

// R1: nothing that was handed in is changed or kept, and the patch is the caller's. R4: of the same the same.
func TestCreateOwn(t *testing.T) {
	a, b := []byte("some bytes, and more of them"), []byte("some bits, and less")
	wasA, wasB := string(a), string(b)
	p, _ := ups.Create(a, b)
	was := bytes.Clone(p)
	if string(a) != wasA || string(b) != wasB {
		t.Error("what was handed in is changed")
	}
	q, _ := ups.Create(a, b)
	if !bytes.Equal(q, was) {
		t.Error("of the same another patch")
	}
	clear(p)
	if !bytes.Equal(q, was) || string(a) != wasA || string(b) != wasB {
		t.Error("a patch that is written over changes others")
	}
	clear(a)
	clear(b)
	if !bytes.Equal(q, was) {
		t.Error("the patch shares bytes with what was handed in")
	}
	if !bytes.Equal(created(t, wasA, wasB), was) {
		t.Error("of the same another patch, later")
	}
}

// R1: bytes that lie behind those that were handed in are not touched, and not looked at.
func TestCreateBehind(t *testing.T) {
	x := numbers(5)
	a, b := x.bytes(100, 256), x.bytes(200, 256)
	wasA, wasB := bytes.Clone(a), bytes.Clone(b)
	p, _ := ups.Create(a[10:20], b[60:90])
	q, _ := ups.Create(b[60:90], a[10:20])
	if !bytes.Equal(a, wasA) || !bytes.Equal(b, wasB) {
		t.Error("bytes are changed")
	}
	if !bytes.Equal(p, created(t, string(a[10:20]), string(b[60:90]))) || !bytes.Equal(q, created(t, string(b[60:90]), string(a[10:20]))) {
		t.Error("of the same another patch")
	}
	// One and the same may be handed in twice.
	if r, e := ups.Create(a, a); !bytes.Equal(r, patch(string(a), string(a))) || e != api.OK {
		t.Errorf("%q, %v", r, e)
	}
}
