package ups_test

import (
	"bytes"
	"slices"
	"strings"
	"testing"

	"picklock/api"
	"picklock/crc"
	"picklock/ups"
)

// forged is s with four bytes behind it, by which its sum is that of want.
func forged(s, want string) string {
	row := crc.Forge(crc.Sum([]byte(s)), crc.Sum([]byte(want)))
	return s + string(row[:])
}

// F1: the output of the input, and the input of the output, by hunks that are written out.
func TestApply(t *testing.T) {
	for _, c := range []struct {
		a, b  string
		hunks []string
	}{
		{"ab", "aX", []string{"\x81\x3A\x00"}},
		{"", "", nil},
		{"ab", "ab", nil},
		{"abc", "XbY", []string{"\x80\x39\x00", "\x80\x3A\x00"}},
		{"abcd", "XbcY", []string{hunk(0, "\x39"), hunk(1, "\x3D")}},
		{"abcd", "Xbcd!", []string{hunk(0, "\x39"), hunk(2, "!")}},
		// Places that the one has not count as 0, and noughts need no hunk.
		{"", "abc", []string{hunk(0, "abc")}},
		{"", "\x00\x00a", []string{hunk(2, "a")}},
		{"ab", "ab\x00\x00", nil},
		{"ab", "ab\x00\x00c", []string{hunk(4, "c")}},
		{"", nulls(500), nil},
	} {
		bothWays(t, patch(c.a, c.b, c.hunks...), c.a, c.b)
		bothWays(t, patch(c.b, c.a, c.hunks...), c.b, c.a)
	}
}

// F1: hunks need not be as few as may be; one may have no bytes, and the byte 0 has a place always.
func TestOtherHunks(t *testing.T) {
	a, b := "abcdef", "aXcdYf"
	xb, xe := "\x3A", "\x3C"
	for _, hunks := range [][]string{
		{hunk(1, xb), hunk(1, xe)},
		{hunk(0, ""), hunk(0, xb), hunk(1, xe)},
		{hunk(1, xb), hunk(0, ""), hunk(0, xe)},
		{hunk(1, xb), hunk(1, xe), hunk(0, "")},
		{hunk(1, xb), hunk(1, xe), hunk(0, ""), hunk(0, ""), hunk(0, "")},
		{hunk(1, xb), hunk(1, xe), hunk(5, "")},
		{hunk(1, xb), hunk(1, xe), hunk(greatest, ""), hunk(greatest, "")},
	} {
		bothWays(t, patch(a, b, hunks...), a, b)
	}
	// The last row's byte 0 stands for the place right behind the end.
	bothWays(t, patch("ab", "aX", hunk(1, xb)), "ab", "aX")
	bothWays(t, patch("ab", "ab", hunk(greatest, "")), "ab", "ab")
}

// What follows: Apply of Create is b, and of that a.
func TestCreateThenApply(t *testing.T) {
	files := []string{"", "\x00", "a", "ab", "abc", nulls(300), strings.Repeat("abc", 100), strings.Repeat("xyz", 50), "UPS1\x80\x80", strings.Repeat("\xFF\x00", 10000)}
	for _, a := range files {
		for _, b := range files {
			bothWays(t, created(t, a, b), a, b)
		}
	}
}

// F1: ErrLarge, if the patch or x has more than 2^24 bytes, whatever else is wrong.
func TestApplyLarge(t *testing.T) {
	big := nulls(most + 1)
	for _, p := range [][]byte{nil, []byte("UPS1"), []byte("UPS2 and something behind it"), patch("ab", "aX", hunk(1, "\x3A")), patch("ab", "aX")[:18]} {
		fails(t, p, big, api.ErrLarge)
	}
	for _, x := range []string{"", "ab", "aX", "cd", big} {
		fails(t, []byte(big), x, api.ErrLarge)
		fails(t, []byte("UPS1"+big), x, api.ErrLarge)
		fails(t, patch("ab", "aX", hunk(1, "\x3A"), strings.Repeat("\x80\x00", most/2)), x, api.ErrLarge)
	}
}

// F1: a patch and an x of just 2^24 bytes are not too large; nor is a patch that tells such a size.
func TestApplyJustNotLarge(t *testing.T) {
	short := len(patch("ab", "aX", hunk(1, "\x3A"), "\x80\x80\x00"))
	even := patch("ab", "aX", hunk(1, "\x3A"), hunk(128, ""), strings.Repeat("\x80\x00", (most-short)/2))
	if len(even) != most {
		t.Fatalf("%d bytes", len(even))
	}
	bothWays(t, even, "ab", "aX")
	fails(t, even, "cd", api.ErrSum)
	zeros := nulls(most)
	fails(t, []byte(zeros), "ab", api.ErrForm)
	fails(t, patch("ab", "aX"), zeros, api.ErrSum)
	bothWays(t, patch(zeros, "ab", hunk(0, "ab")), zeros, "ab")
	bothWays(t, patch(zeros, changed(zeros, most-1), hunk(most-1, "X")), zeros, changed(zeros, most-1))
	fails(t, patch(zeros, zeros, hunk(most, "X")), zeros, api.ErrSize)
}

// F1: ErrForm, if a patch has fewer than 18 bytes, or does not begin as it must; ahead of a sum that does not fit.
func TestForm(t *testing.T) {
	whole := patch("ab", "aX", hunk(1, "\x3A"))
	for n := range 18 {
		fails(t, whole[:n], "ab", api.ErrForm)
		if n >= 4 {
			fails(t, signed(string(whole[:n-4])), "ab", api.ErrForm)
		}
	}
	fails(t, nil, "", api.ErrForm)
	fails(t, raw("\x80", "", ""), "", api.ErrForm)
	fails(t, raw("", "", ""), "", api.ErrForm)
	bothWays(t, raw("\x80\x80", "", ""), "", "")
	for at := range 4 {
		for _, x := range []byte{1, 0x20, 0x80, 0xFF} {
			other := bytes.Clone(whole)
			other[at] ^= x
			fails(t, other, "ab", api.ErrForm)
			fails(t, signed(string(other[:len(other)-4])), "ab", api.ErrForm)
		}
	}
	for _, s := range []string{"UPS2", "ups1", "UPS\x01", "UPS", " UPS1", "BPS1", "PATCH", "1SPU"} {
		fails(t, signed(s+"\x82\x82\x81\x3A\x00"+sum("ab")+sum("aX")), "ab", api.ErrForm)
	}
}

// F1: ErrSum, if the last four bytes are not the sum of all ahead: so it is if up to four neighbours were changed, be it in the sum itself.
func TestLastSum(t *testing.T) {
	whole := patch("abcd", "XbcY", hunk(0, "\x39"), hunk(1, "\x3D"))
	seed := numbers(3)
	for n := 1; n <= 4; n++ {
		for at := 4; at+n <= len(whole); at++ {
			for range 20 {
				other := bytes.Clone(whole)
				for i := range n {
					other[at+i] ^= byte(1 + seed.below(255))
				}
				fails(t, other, "abcd", api.ErrSum)
				fails(t, other, "XbcY", api.ErrSum)
			}
		}
	}
	for at := 4; at < len(whole); at++ {
		for bit := range 8 {
			other := bytes.Clone(whole)
			other[at] ^= 1 << bit
			fails(t, other, "abcd", api.ErrSum)
		}
	}
	// The sum with its highest byte first, or of less than all ahead, is another one.
	ahead := string(whole[:len(whole)-4])
	last := []byte(sum(ahead))
	slices.Reverse(last)
	fails(t, []byte(ahead+string(last)), "abcd", api.ErrSum)
	fails(t, []byte(ahead+sum(ahead[:len(ahead)-4])), "abcd", api.ErrSum)
	fails(t, []byte(ahead+sum(ahead[4:])), "abcd", api.ErrSum)
	fails(t, append(bytes.Clone(whole), 0), "abcd", api.ErrSum)
}

// F1: the last sum comes ahead of all that is wrong further left.
func TestLastSumFirst(t *testing.T) {
	for _, body := range []string{
		"\x02\x02", "\x80\x02", "\x7F\x7F\x7F\x7F\x7F\x80", number(most+1) + "\x80", "\x82\x82\x01", "\x82\x82\x80\x01", "\x82\x82\x85\x01\x00",
	} {
		p := raw(body, "ab", "aX")
		p[len(p)-1]++
		fails(t, p, "ab", api.ErrSum)
	}
}

// highSums are a and b whose sums' bytes all have their highest bit set: a number that reached into them would end there.
func highSums() (string, string) {
	want := "\x80\x81\x82\x83"
	u := uint32(0x83828180)
	var out []string
	for _, s := range []string{"a", "b"} {
		row := crc.Forge(crc.Sum([]byte(s)), u)
		out = append(out, s+string(row[:]))
	}
	if sum(out[0]) != want || sum(out[1]) != want {
		panic("no such sums")
	}
	return out[0], out[1]
}

// F1: the error of Take of both sizes, from the left; a number does not reach into the last twelve bytes.
func TestSizesTaken(t *testing.T) {
	a, b := highSums()
	for _, c := range []struct {
		body string
		e    api.Errno
	}{
		// Cut: the first one, then the second one.
		{"\x02\x02", api.ErrShort},
		{"\x00\x00\x00\x00\x00", api.ErrShort},
		{"\x80\x02", api.ErrShort},
		{"\x02\x82", api.ErrShort},
		{"\x7F\xFF", api.ErrShort},
		{"\x82\x7F\x7E\x7E\x7E\x0E", api.ErrShort},
		{"\x82\x00\x7F\x7E\x7E\x0E", api.ErrShort},
		// Too great: the first one, then the second one, be it cut or not.
		{"\x01\x7F\x7E\x7E\x8E\x82", api.ErrSize},
		{"\x01\x7F\x7E\x7E\x0E", api.ErrSize},
		{"\x7F\x7F\x7F\x7F\x7F\x82", api.ErrSize},
		{"\x00\x00\x00\x00\x00\x00", api.ErrSize},
		{"\x82\x01\x7F\x7E\x7E\x8E", api.ErrSize},
		{"\x82\x01\x7F\x7E\x7E\x0E", api.ErrSize},
		{"\x82\x7F\x7F\x7F\x7F\x7F", api.ErrSize},
		// The first one counts where the second one is wrong too.
		{"\x01\x7F\x7E\x7E\x8E\x02", api.ErrSize},
	} {
		for _, x := range []string{a, b, "ab", ""} {
			fails(t, raw(c.body, a, b), x, c.e)
		}
	}
}

// F1: ErrLarge for a size above 2^24, behind what Take tells of either size, and ahead of the hunks.
func TestSizesLarge(t *testing.T) {
	for _, n := range []uint64{most + 1, most + 2, 1 << 25, 1<<32 - 1, greatest} {
		for _, behind := range []string{"", "\x80\x00", "\x01", "\x80\x01", "\x80\x01\x00", "\x7F\x7F\x7F\x7F\x7F"} {
			fails(t, raw(number(n)+"\x82"+behind, "ab", "aX"), "ab", api.ErrLarge)
			fails(t, raw("\x82"+number(n)+behind, "ab", "aX"), "ab", api.ErrLarge)
			fails(t, raw(number(n)+number(n)+behind, "ab", "aX"), "ab", api.ErrLarge)
		}
		fails(t, raw(number(n), "ab", "aX"), "ab", api.ErrShort)
		fails(t, raw(number(n)+"\x02", "ab", "aX"), "ab", api.ErrShort)
		fails(t, raw(number(n)+"\x7F\x7F\x7F\x7F\x7F", "ab", "aX"), "ab", api.ErrSize)
	}
	fails(t, raw(number(most)+"\x82", "ab", "aX"), "cd", api.ErrSum)
	fails(t, raw("\x82"+number(most), "ab", "aX"), "cd", api.ErrSum)
}

// F1: the error of Take of what is skipped, and ErrShort, where the hunks end without a byte 0.
func TestHunksTaken(t *testing.T) {
	a, b := highSums()
	sizes := number(5) + number(5)
	for _, c := range []struct {
		hunks string
		e     api.Errno
	}{
		{"\x01", api.ErrShort},
		{"\x00", api.ErrShort},
		{"\x7F\x7F\x7F\x7F", api.ErrShort},
		{"\x00\x7F\x7E\x7E\x0E", api.ErrShort},
		{"\x80\x00\x01", api.ErrShort},
		{"\x81\x3A\x00\x00", api.ErrShort},
		{"\x01\x7F\x7E\x7E\x8E\x00", api.ErrSize},
		{"\x01\x7F\x7E\x7E\x0E", api.ErrSize},
		{"\x7F\x7F\x7F\x7F\x7F", api.ErrSize},
		{"\x80\x00\x7F\x7F\x7F\x7F\x7F\x80\x00", api.ErrSize},
		// Without a byte 0: no byte at all, or some.
		{"\x80", api.ErrShort},
		{"\x84", api.ErrShort},
		{"\x85", api.ErrShort},
		{number(greatest), api.ErrShort},
		{"\x80\x01", api.ErrShort},
		{"\x80\x01\x02\x03\x04\x05", api.ErrShort},
		{"\x84\x01", api.ErrShort},
		{"\x80\x00\x80", api.ErrShort},
		{"\x80\x01\x00\x80\x01", api.ErrShort},
	} {
		for _, x := range []string{a, b, "ab", ""} {
			fails(t, raw(sizes+c.hunks, a, b), x, c.e)
		}
	}
}

// F1: ErrSize for a byte that is not 0 at a place not below the greater one of both sizes.
func TestHunksOut(t *testing.T) {
	a, b := "abc", "abcde"
	for _, c := range []struct{ hunks []string }{
		{[]string{hunk(5, "\x01")}},
		{[]string{hunk(6, "\x01")}},
		{[]string{hunk(4, "\x01\x02")}},
		{[]string{hunk(0, "\x01\x02\x03\x04\x05\x06")}},
		{[]string{hunk(3, "de"), hunk(0, "\x01")}},
		{[]string{hunk(3, "de"), hunk(0, ""), hunk(0, "\x01")}},
		{[]string{hunk(0, ""), hunk(0, ""), hunk(0, ""), hunk(0, ""), hunk(0, ""), hunk(0, "\x01")}},
		{[]string{hunk(1, "\x01"), hunk(2, "\x01")}},
		// However far, no place is counted round.
		{[]string{hunk(1<<31, "\x01")}},
		{[]string{hunk(1<<32-2, "\x01")}},
		{[]string{hunk(1<<32-1, "\x01")}},
		{[]string{hunk(greatest, "\x01")}},
		{[]string{hunk(0, ""), hunk(1<<32-1, "\x01")}},
		{[]string{hunk(1<<32-1, ""), hunk(0, "\x01")}},
		{[]string{hunk(1<<31, ""), hunk(1<<31-1, "\x01")}},
		{[]string{hunk(1<<31, ""), hunk(1<<31, "\x01")}},
		{[]string{hunk(greatest, ""), hunk(greatest, ""), hunk(greatest, ""), hunk(greatest-4, "\x01")}},
	} {
		for _, x := range []string{a, b, "ab", ""} {
			fails(t, patch(a, b, c.hunks...), x, api.ErrSize)
			fails(t, patch(b, a, c.hunks...), x, api.ErrSize)
		}
	}
	// At the last place there may be a byte, whichever of both has it; and behind it the byte 0.
	bothWays(t, patch(a, "abc\x00e", hunk(4, "e")), a, "abc\x00e")
	bothWays(t, patch("abc\x00e", a, hunk(4, "e")), "abc\x00e", a)
	bothWays(t, patch(a, b, hunk(3, "de"), hunk(7, "")), a, b)
	fails(t, patch("", "", hunk(0, "\x01")), "", api.ErrSize)
	bothWays(t, patch("", "", hunk(0, "")), "", "")
}

// F1: of the hunks' errors the one that stands furthest left counts, byte by byte.
func TestHunksFromTheLeft(t *testing.T) {
	for _, c := range []struct {
		hunks string
		e     api.Errno
	}{
		{"\x82\x01", api.ErrSize},             // a byte out, and no byte 0 behind it
		{"\x80\x01\x02\x03", api.ErrSize},     // the third byte is out, and no byte 0 behind it
		{"\x82\x01\x00\x01", api.ErrSize},     // a byte out, then a number that is cut
		{"\x80\x01", api.ErrShort},            // no byte 0, and none is out
		{"\x82", api.ErrShort},                // no byte 0, though the place is out
		{"\x80\x00\x01", api.ErrShort},        // a number that is cut
		{"\x80\x00\x81\x01\x01", api.ErrSize}, // a byte out, then no byte 0
		{"\x82\x00\x80\x01\x00", api.ErrSize}, // a byte 0 that is out is none, but the byte behind it
		{"\x82\x00\x80", api.ErrShort},        // likewise, with no byte behind it
		{"\x81\x01\x00\x80\x00\x00", api.ErrShort},
	} {
		fails(t, raw("\x82\x82"+c.hunks, "ab", "aX"), "ab", c.e)
		fails(t, raw("\x82\x82"+c.hunks, "ab", "aX"), "aX", c.e)
		fails(t, raw("\x82\x82"+c.hunks, "ab", "aX"), "some other bytes", c.e)
	}
}

// F1: ErrSum for an x that has neither the input's size and sum nor the output's.
func TestNeither(t *testing.T) {
	a, b := "abcdef", "abXdefgh"
	p := created(t, a, b)
	bothWays(t, p, a, b)
	for _, x := range []string{"", "a", "abcdeX", "abcdefgh", "abcdef\x00", "abcdef\x00\x00", "abXdef", nulls(6), nulls(8), string(p)} {
		fails(t, p, x, api.ErrSum)
	}
	// The one's size with the other's sum, and either sum with a size that is neither's.
	for _, x := range []string{forged("ab", b), forged("abcd", a), forged("a", a), forged("a", b), forged("abc", b), forged("abcde", a), forged(a, a), forged(b, b)} {
		fails(t, p, x, api.ErrSum)
	}
	// The sums do not count by themselves where the sizes are wrong.
	fails(t, raw("\x85\x88\x82\x3B\x00", a, b), a, api.ErrSum)
	fails(t, raw("\x86\x89\x82\x3B\x00", a, b), b, api.ErrSum)
}

// F1: which file an x is hangs on size and sum alone; what is made must have the sum that is told.
func TestWrongMade(t *testing.T) {
	a, b := "abcdefgh", "abXdefgh"
	// A wrong byte, a byte too few, and a byte too many.
	for _, h := range []string{hunk(2, "\x3A"), "", hunk(2, "\x3B\x01"), hunk(1, "\x3B"), hunk(0, "\x01\x00\x80\x3B")} {
		fails(t, patch(a, b, h), a, api.ErrSize)
		fails(t, patch(a, b, h), b, api.ErrSize)
	}
	// A wrong sum of the one that is made; that of the other one is not found then.
	wrong := raw(number(8)+number(8)+hunk(2, "\x3B"), a, "another")
	fails(t, wrong, a, api.ErrSize)
	fails(t, wrong, b, api.ErrSum)
	wrong = raw(number(8)+number(8)+hunk(2, "\x3B"), "another", b)
	fails(t, wrong, a, api.ErrSum)
	fails(t, wrong, b, api.ErrSize)
	// A wrong size of it.
	wrong = raw(number(8)+number(9)+hunk(2, "\x3B"), a, b)
	fails(t, wrong, a, api.ErrSize)
	fails(t, wrong, b, api.ErrSum)
	wrong = raw(number(7)+number(8)+hunk(2, "\x3B"), a, b)
	fails(t, wrong, a, api.ErrSum)
	fails(t, wrong, b, api.ErrSize)
}

// F1: an x that is another than a, but has its size and sum, counts as a; what is made of it has b's sum or not.
func TestTwins(t *testing.T) {
	a, b := "abcdefgh", "abX"
	p := created(t, a, b)
	fails(t, p, forged("wxyz", a), api.ErrSize)
	// With nothing xored in behind the end, it is the sum alone that is another one.
	p = patch(a, b, hunk(2, "\x3B"))
	makes(t, p, a, b)
	fails(t, p, forged("wxyz", a), api.ErrSize)
	// Sums of the same size are xored as their bytes are, so that this one leads to a twin of the other.
	a, b = "abcdefgh", "abXdefgh"
	p = created(t, a, b)
	twin := forged("wxyz", a)
	makes(t, p, twin, "wx"+string([]byte{'y' ^ 0x3B})+twin[3:])
}

// F1: where x is both, the input's way is gone, and its error told.
func TestBoth(t *testing.T) {
	a := "abcdefgh"
	b := forged("wxyz", a)
	p := created(t, a, b)
	bothWays(t, p, a, b)
	makes(t, patch(a, a), a, a)
	makes(t, patch(a, b), a, a)
	fails(t, patch(a, a, hunk(0, "\x01")), a, api.ErrSize)
	fails(t, patch(a, b, hunk(0, "\x01")), b, api.ErrSize)
}

// F1: ErrSize for a byte that is xored in behind the end of what is made, and leaves there something other than 0.
func TestBehindTheEnd(t *testing.T) {
	long, short := "abcd\x00f", "ab"
	for _, c := range []struct {
		hunks string
		e     api.Errno
	}{
		// All or some of it to 0, or nothing xored in at all: what is made is the same.
		{hunk(2, "cd") + hunk(0, "f"), api.OK},
		{hunk(2, "cd"), api.OK},
		{hunk(2, "c"), api.OK},
		{hunk(3, "d"), api.OK},
		{hunk(5, "f"), api.OK},
		{"", api.OK},
		{hunk(9, ""), api.OK},
		{hunk(2, "X"), api.ErrSize},
		{hunk(2, "cX"), api.ErrSize},
		{hunk(2, "Xd"), api.ErrSize},
		{hunk(3, "X"), api.ErrSize},
		{hunk(4, "X"), api.ErrSize}, // where the longer one has a 0
		{hunk(4, "\x01"), api.ErrSize},
		{hunk(5, "X"), api.ErrSize},
		{hunk(2, "cd") + hunk(0, "X"), api.ErrSize},
		{hunk(2, "cd\x01f"), api.ErrSize},
		{hunk(2, "c") + hunk(1, "\x01f"), api.ErrSize},
	} {
		for _, p := range [][]byte{patch(long, short, c.hunks), patch(short, long, c.hunks)} {
			if c.e == api.OK {
				makes(t, p, long, short)
			} else {
				fails(t, p, long, c.e)
			}
		}
	}
	// The other way there is no byte that is cut off: what is made is just not the longer one.
	fails(t, patch(long, short, hunk(2, "cd")), short, api.ErrSize)
	fails(t, patch(long, short, hunk(2, "cd\x01f")), short, api.ErrSize)
	bothWays(t, patch(long, short, hunk(2, "cd")+hunk(0, "f")), long, short)
	// Nothing is left of the shorter one.
	makes(t, patch("abc", "", hunk(1, "b")), "abc", "")
	fails(t, patch("abc", "", hunk(1, "X")), "abc", api.ErrSize)
	fails(t, patch("", "abc", hunk(2, "X")), "abc", api.ErrSize)
}

// plainTake tells a number, how many bytes it has, and Take's error, of what the chapter of numbers says.
func plainTake(s string) (uint64, int, api.Errno) {
	said, weight := uint64(0), uint64(1)
	for i := range len(s) {
		said += uint64(s[i]&127) * weight
		if said > greatest {
			return 0, 0, api.ErrSize
		}
		if s[i] >= 128 {
			return said, i + 1, api.OK
		}
		weight *= 128
		said += weight
	}
	return 0, 0, api.ErrShort
}

// plainXored goes through hunks, tells what is xored in where, and the first error.
func plainXored(s string, limit uint64) (map[uint64]byte, api.Errno) {
	xored := map[uint64]byte{}
	at := uint64(0)
	for len(s) > 0 {
		skipped, n, e := plainTake(s)
		if e != api.OK {
			return nil, e
		}
		at += skipped
		s = s[n:]
		for {
			if len(s) == 0 {
				return nil, api.ErrShort
			}
			x := s[0]
			s = s[1:]
			if x == 0 {
				at++
				break
			}
			if at >= limit {
				return nil, api.ErrSize
			}
			xored[at] = x
			at++
		}
	}
	return xored, api.OK
}

// plainMade tells what is made of x, place by place.
func plainMade(x string, size uint64, want string, xored map[uint64]byte) (string, api.Errno) {
	byteAt := func(at uint64) byte {
		if at < uint64(len(x)) {
			return x[at]
		}
		return 0
	}
	var out []byte
	for at := range size {
		out = append(out, byteAt(at)^xored[at])
	}
	if sum(string(out)) != want {
		return "", api.ErrSize
	}
	for at, y := range xored {
		if at >= size && byteAt(at)^y != 0 {
			return "", api.ErrSize
		}
	}
	return string(out), api.OK
}

// plainApply is what F1 says, sentence by sentence, of files that are not too large.
func plainApply(p, x string) (string, api.Errno) {
	if len(p) < 18 || p[:4] != "UPS1" {
		return "", api.ErrForm
	}
	n := len(p)
	if p[n-4:] != sum(p[:n-4]) {
		return "", api.ErrSum
	}
	body, sumA, sumB := p[4:n-ends], p[n-ends:n-8], p[n-8:n-4]
	sizeA, i, e := plainTake(body)
	if e != api.OK {
		return "", e
	}
	sizeB, j, e := plainTake(body[i:])
	if e != api.OK {
		return "", e
	}
	if sizeA > most || sizeB > most {
		return "", api.ErrLarge
	}
	xored, e := plainXored(body[i+j:], max(sizeA, sizeB))
	if e != api.OK {
		return "", e
	}
	if uint64(len(x)) == sizeA && sum(x) == sumA {
		return plainMade(x, sizeB, sumB, xored)
	}
	if uint64(len(x)) == sizeB && sum(x) == sumB {
		return plainMade(x, sizeA, sumA, xored)
	}
	return "", api.ErrSum
}

// someHunks tells hunks that look like chance: bytes of few kinds, and now and then any.
func someHunks(x *numbers) string {
	var out string
	for range x.below(5) {
		switch x.below(8) {
		case 0:
			out += string(x.bytes(x.below(4), 256))
		case 1:
			out += number(greatest - uint64(x.below(3)))
		default:
			out += hunk(uint64(x.below(3)), string(x.bytes(x.below(3), 3)))
		}
	}
	return out
}

// F1: patches that look like chance, with last sums that fit, answer as its sentences do; all errors are among them.
func TestApplyMany(t *testing.T) {
	x := numbers(9)
	told := map[api.Errno]int{}
	for range 30000 {
		a, b := string(x.bytes(x.below(5), 3)), string(x.bytes(x.below(5), 3))
		hunks := plainHunks(a, b)
		if x.below(3) > 0 {
			hunks = someHunks(&x)
		}
		var p []byte
		switch x.below(8) {
		case 0:
			p = raw(string(x.bytes(x.below(6), 256))+hunks, a, b)
		case 1:
			p = raw(number(uint64(x.below(6)))+number(uint64(x.below(6)))+hunks, a, b)
		default:
			p = patch(a, b, hunks)
		}
		if x.below(50) == 0 {
			p = p[:x.below(len(p))]
		}
		for _, y := range []string{a, b, string(x.bytes(x.below(5), 3))} {
			want, e := plainApply(string(p), y)
			told[e]++
			if out, got := ups.Apply(p, []byte(y)); string(out) != want || got != e {
				t.Fatalf("%q of %q: %q, %v instead of %q, %v", p, y, out, got, want, e)
			}
		}
	}
	for _, e := range []api.Errno{api.OK, api.ErrForm, api.ErrSum, api.ErrShort, api.ErrSize, api.ErrLarge} {
		if told[e] < 100 {
			t.Errorf("%v: %d times", e, told[e])
		}
	}
}

// R2: whatever is handed in, Apply ends without a panic.
func TestApplyWhatever(t *testing.T) {
	x := numbers(11)
	for range 20000 {
		p := x.bytes(x.below(40), 256)
		if len(p) >= 4 && x.below(2) == 0 {
			copy(p, "UPS1")
		}
		if x.below(2) == 0 {
			p = signed(string(p))
		}
		y := x.bytes(x.below(4), 256)
		want, e := plainApply(string(p), string(y))
		if out, got := ups.Apply(p, y); string(out) != want || got != e {
			t.Fatalf("%q of %q: %q, %v instead of %q, %v", p, y, out, got, want, e)
		}
	}
}

// R1: nothing that was handed in is changed or kept, and what is told is the caller's. R4: of the same the same.
func TestApplyOwn(t *testing.T) {
	a, b := "some bytes, and more of them", "some bits, and less"
	for _, c := range []struct{ from, to string }{{a, b}, {b, a}, {a, a}} {
		wasP := created(t, c.from, c.to)
		// Both lie in longer rows, so that writing behind their ends would be seen.
		p, x := append(bytes.Clone(wasP), "behind"...), []byte(c.from+"behind")
		out, e := ups.Apply(p[:len(wasP)], x[:len(c.from)])
		if string(out) != c.to || e != api.OK {
			t.Errorf("%q, %v", out, e)
		}
		if string(p) != string(wasP)+"behind" || string(x) != c.from+"behind" {
			t.Error("what was handed in is changed")
		}
		again, _ := ups.Apply(p[:len(wasP)], x[:len(c.from)])
		clear(out)
		_ = append(out, "more"...)
		if string(again) != c.to || string(p) != string(wasP)+"behind" || string(x) != c.from+"behind" {
			t.Error("what is told shares bytes with others")
		}
		clear(p)
		clear(x)
		if string(again) != c.to {
			t.Error("what is told shares bytes with what was handed in")
		}
		makes(t, wasP, c.from, c.to)
	}
}

// R1: an error leaves what was handed in as it was, too. R4: it is told again.
func TestApplyErrorOwn(t *testing.T) {
	for _, p := range [][]byte{patch("abcd", "ab", hunk(2, "cX")), patch("abcd", "ab", hunk(9, "X")), patch("abcd", "aX", hunk(0, "\x01")), raw("\x84\x82\x01", "abcd", "ab")} {
		was, x := bytes.Clone(p), []byte("abcd")
		_, first := ups.Apply(p, x)
		_, second := ups.Apply(p, x)
		if first == api.OK || first != second || !bytes.Equal(p, was) || string(x) != "abcd" {
			t.Errorf("%q: %v, %v, %q", was, first, second, x)
		}
	}
}
