package bps_test

import (
	"bytes"
	"strings"
	"testing"

	"picklock/api"
	"picklock/bps"
)

// doing is actions, and what they make of some x.
type doing struct {
	actions []string
	want    string
}

// does is for actions that make of x what is wanted.
func does(t *testing.T, x string, all []doing) {
	t.Helper()
	for _, d := range all {
		makes(t, patch(x, d.want, d.actions...), x, d.want)
	}
}

// G2: each kind alone, and all mixed, from bytes that are written out; the chapter's example is the first one.
func TestApply(t *testing.T) {
	for _, c := range []struct{ x, actions, want string }{
		{"ab", "\x84", "ab"},
		{"abc", "\x84", "ab"},
		{"abc", "\x80\x80\x80", "abc"},
		{"", "\x89XYZ", "XYZ"},
		{"abc", "\x85XY\x81Z", "XYZ"},
		{"abc", "\x86\x82", "bc"},
		{"abc", "\x8A\x80", "abc"},
		{"abc", "\x82\x84\x82\x83\x82\x85", "ccb"},
		{"", "\x81a\x93\x80", "aaaaaa"},
		{"", "\x85ab\x87\x80", "abab"},
		{"", "\x85ab\x83\x82\x83\x85", "abba"},
		{"abc", "\x84\x81X\x86\x80\x87\x86", "abXabab"},
	} {
		makes(t, patch(c.x, c.want, c.actions), c.x, c.want)
	}
}

// G2: an output of no bytes, whatever the input is.
func TestApplyNothing(t *testing.T) {
	for _, x := range []string{"", "a", "abc", nulls(500)} {
		makes(t, patch(x, ""), x, "")
		makes(t, noted(x, "", "me"), x, "")
	}
	if out, e := bps.Apply(raw("\x80\x80\x80", "", ""), nil); len(out) != 0 || e != api.OK {
		t.Error(out, e)
	}
}

// G2: FromSource takes bytes at the places of the output, whatever was written ahead, and leaves both places where they are.
func TestFromSource(t *testing.T) {
	does(t, "abcdefgh", []doing{
		{[]string{fromSource(8)}, "abcdefgh"},
		{[]string{fromSource(3), fromSource(5)}, "abcdefgh"},
		{[]string{fromPatch("XY"), fromSource(3)}, "XYcde"},
		{[]string{fromPatch("XYZXYZX"), fromSource(1)}, "XYZXYZXh"},
		{[]string{copySource(2, 5), fromSource(2)}, "fgcd"},
		{[]string{fromPatch("X"), copyTarget(3, 0), fromSource(2)}, "XXXXef"},
		{[]string{fromSource(2), fromPatch("X"), fromSource(2)}, "abXde"},
		{[]string{fromSource(3), copySource(2, 0)}, "abcab"},
		{[]string{copySource(2, 1), fromSource(3), copySource(2, 0)}, "bccdede"},
		{[]string{fromSource(3), copyTarget(2, 0)}, "abcab"},
		{[]string{fromPatch("XY"), copyTarget(1, 0), fromSource(3), copyTarget(2, 0)}, "XYXdefYX"},
	})
}

// G2: FromPatch writes Data, and leaves both places where they are.
func TestFromPatch(t *testing.T) {
	does(t, "abcdefgh", []doing{
		{[]string{fromPatch("X")}, "X"},
		{[]string{fromPatch("X"), fromPatch("YZ")}, "XYZ"},
		{[]string{fromPatch("\x00\xFF\x80"), fromPatch("\x00")}, "\x00\xFF\x80\x00"},
		{[]string{fromSource(2), fromPatch("XYZ")}, "abXYZ"},
		{[]string{fromPatch("XY"), copySource(2, 0)}, "XYab"},
		{[]string{copySource(2, 0), fromPatch("XY"), copySource(2, 0)}, "abXYcd"},
		{[]string{fromPatch("XY"), copyTarget(1, 0), fromPatch("Z"), copyTarget(2, 0)}, "XYXZYX"},
		{[]string{fromPatch(strings.Repeat("XYZ", 5000))}, strings.Repeat("XYZ", 5000)},
	})
}

// G2: CopySource goes on behind its last copy, and Move leads forth and back from there.
func TestCopySource(t *testing.T) {
	does(t, "abcdefgh", []doing{
		{[]string{copySource(8, 0)}, "abcdefgh"},
		{[]string{copySource(3, 0), copySource(3, 0)}, "abcdef"},
		{[]string{copySource(3, 2), copySource(2, 1)}, "cdegh"},
		{[]string{copySource(3, 5), copySource(3, -8)}, "fghabc"},
		{[]string{copySource(3, 5), copySource(3, -3)}, "fghfgh"},
		{[]string{copySource(1, 7), copySource(1, -2), copySource(1, -2), copySource(1, 1)}, "hgfh"},
		{[]string{copySource(2, 1), copySource(2, -1), copySource(1, 3)}, "bccdh"},
		{[]string{copySource(8, 0), copySource(8, -8), copySource(1, -1)}, "abcdefghabcdefghh"},
		{[]string{fromSource(4), copySource(2, 1), fromPatch("X"), copySource(2, 0)}, "abcdbcXde"},
	})
}

// G2: CopyTarget goes on behind its last copy, and Move leads forth and back from there.
func TestCopyTarget(t *testing.T) {
	does(t, "", []doing{
		{[]string{fromPatch("abcdef"), copyTarget(6, 0)}, "abcdefabcdef"},
		{[]string{fromPatch("abcdef"), copyTarget(2, 0), copyTarget(2, 0)}, "abcdefabcd"},
		{[]string{fromPatch("abcdef"), copyTarget(2, 3), copyTarget(2, -4)}, "abcdefdebc"},
		{[]string{fromPatch("abcdef"), copyTarget(1, 5), copyTarget(1, 0)}, "abcdefff"},
		{[]string{fromPatch("abcdef"), copyTarget(1, 5), copyTarget(1, -1)}, "abcdefff"},
		{[]string{fromPatch("abcdef"), copyTarget(2, 2), copyTarget(2, 3)}, "abcdefcddd"},
		{[]string{fromPatch("abcdef"), copyTarget(1, 4), copyTarget(1, -5), copyTarget(1, 1)}, "abcdefeac"},
		{[]string{fromPatch("ab"), copyTarget(1, 0), fromPatch("XY"), copyTarget(3, 1)}, "abaXYaXY"},
	})
}

// G2: each place is by itself: a copy of the one kind does not move the other kind's.
func TestPlacesApart(t *testing.T) {
	does(t, "uvwxyz", []doing{
		{[]string{fromPatch("ab"), copySource(2, 2), copyTarget(2, 1), copySource(1, 0), copyTarget(1, 0)}, "abwxbwyx"},
		{[]string{copySource(2, 3), copyTarget(3, 0), copySource(1, 0)}, "xyxyxz"},
		{[]string{copySource(3, 3), copyTarget(1, 0), copySource(1, -6), copyTarget(1, 0)}, "xyzxuy"},
		{[]string{fromSource(4), copyTarget(4, 0), copySource(2, 0), copyTarget(1, -4), copySource(1, -2)}, "uvwxuvwxuvuu"},
	})
}

// G2: CopyTarget may copy what it has just written: one byte again and again, and some bytes again and again.
func TestCopyTargetInto(t *testing.T) {
	does(t, "", []doing{
		{[]string{fromPatch("a"), copyTarget(1, 0)}, "aa"},
		{[]string{fromPatch("a"), copyTarget(1000, 0)}, strings.Repeat("a", 1001)},
		{[]string{fromPatch("xya"), copyTarget(1000, 2)}, "xy" + strings.Repeat("a", 1001)},
		{[]string{fromPatch("xyabc"), copyTarget(7, 2)}, "xyabcabcabca"},
		{[]string{fromPatch("a"), copyTarget(3, 0), fromPatch("b"), copyTarget(3, 1)}, "aaaabbbb"},
		{[]string{fromPatch("ab"), copyTarget(5, 0), copyTarget(5, 0)}, "abababababab"},
	})
	letters := "abcdefghijklmnopqrstuvwxyz"
	for back := 1; back <= len(letters); back++ {
		for n := 1; n <= 70; n++ {
			want := letters
			for range n {
				want += want[len(want)-back : len(want)-back+1]
			}
			makes(t, patch("", want, fromPatch(letters), copyTarget(n, int64(len(letters)-back))), "", want)
		}
	}
}

// texts tells all texts of n bytes that are among those of alphabet.
func texts(n int, alphabet string) []string {
	out := []string{""}
	for range n {
		var longer []string
		for _, s := range out {
			for i := range len(alphabet) {
				longer = append(longer, s+alphabet[i:i+1])
			}
		}
		out = longer
	}
	return out
}

// isOut is for actions, of n bytes together, that take a byte that is not there: no output that one could think of may be told.
func isOut(t *testing.T, x string, n int, actions ...string) {
	t.Helper()
	for _, b := range texts(n, "abcX\x00") {
		p := patch(x, b, actions...)
		if _, e := bps.Parse(p); e != api.OK {
			t.Fatalf("%q: %v", p, e)
		}
		fails(t, p, x, api.ErrSize)
	}
}

// G2: ErrSize for a byte of x that is not there.
func TestOutOfSource(t *testing.T) {
	// At the end, and behind it: at the places of the output.
	isOut(t, "", 1, fromSource(1))
	isOut(t, "ab", 3, fromSource(3))
	isOut(t, "ab", 3, fromSource(2), fromSource(1))
	isOut(t, "ab", 3, fromPatch("XX"), fromSource(1))
	isOut(t, "ab", 4, fromPatch("XXX"), fromSource(1))
	isOut(t, "ab", 4, fromPatch("X"), fromSource(3))
	// Below 0: all, the first one, and once the place was moved.
	for _, move := range []int64{-1, -2, -3, -4, -100} {
		isOut(t, "abc", 1, copySource(1, move))
		isOut(t, "abc", 2, copySource(2, move))
		isOut(t, "abc", 2, copySource(1, 0), copySource(1, move-1))
		isOut(t, "abc", 3, copySource(2, 1), copySource(1, move-3))
		isOut(t, "", 1, copySource(1, move))
	}
	// At the end, behind it, and from within beyond it.
	for _, move := range []int64{3, 4, 5, 6, 100} {
		isOut(t, "abc", 1, copySource(1, move))
		isOut(t, "abc", 2, copySource(2, move-1))
		isOut(t, "abc", 3, copySource(3, move-2))
		isOut(t, "abc", 4, copySource(4, move-3))
		isOut(t, "abc", 2, copySource(1, 0), copySource(1, move-1))
		isOut(t, "abc", 4, copySource(3, 0), copySource(1, move-3))
		isOut(t, "", 1, copySource(1, move-3))
	}
}

// G2: ErrSize for a byte of the output that is not there, or not yet.
func TestOutOfTarget(t *testing.T) {
	isOut(t, "abc", 1, copyTarget(1, 0))
	isOut(t, "abc", 2, copyTarget(2, 0))
	isOut(t, "abc", 2, copyTarget(1, 0), fromPatch("X"))
	for _, move := range []int64{-1, -2, -3, -4, -100} {
		isOut(t, "abc", 1, copyTarget(1, move))
		isOut(t, "abc", 3, fromPatch("ab"), copyTarget(1, move))
		isOut(t, "abc", 4, fromPatch("ab"), copyTarget(2, move))
		isOut(t, "abc", 4, fromPatch("ab"), copyTarget(1, 0), copyTarget(1, move-1))
		isOut(t, "abc", 4, fromSource(2), copyTarget(1, 1), copyTarget(1, move-2))
	}
	for _, move := range []int64{2, 3, 4, 5, 100} {
		isOut(t, "abc", 3, fromPatch("ab"), copyTarget(1, move))
		isOut(t, "abc", 4, fromPatch("ab"), copyTarget(2, move))
		isOut(t, "abc", 3, fromSource(2), copyTarget(1, move))
		// It is written later, but not yet.
		isOut(t, "abc", 4, fromPatch("ab"), copyTarget(1, move), fromPatch("X"))
		isOut(t, "abc", 4, fromPatch("ab"), copyTarget(1, 0), copyTarget(1, move))
	}
}

// G2: however far a move is, and however often, no place is counted round.
func TestFurthest(t *testing.T) {
	for _, far := range []int64{1 << 24, 1<<31 - 1, furthest, -(1 << 24), -(furthest - 1)} {
		for _, near := range []int64{0, 1, -1, 2, -2} {
			isOut(t, "abc", 2, copySource(1, far), copySource(1, near))
			isOut(t, "abc", 3, fromPatch("X"), copyTarget(1, far), copyTarget(1, near))
		}
		for _, second := range []int64{furthest, furthest - 1, furthest - 2, -(furthest - 1), -(furthest - 2), -far - 1, -far, 1 - far} {
			if second < -(furthest - 1) {
				continue
			}
			isOut(t, "abc", 2, copySource(1, far), copySource(1, second))
			isOut(t, "abc", 3, fromPatch("X"), copyTarget(1, far), copyTarget(1, second))
		}
		for n := 2; n <= 4; n++ {
			isOut(t, "abc", n, strings.Repeat(copySource(1, far), n))
			isOut(t, "abc", n, fromPatch("X")+strings.Repeat(copyTarget(1, far), n-1))
		}
	}
	// Many times over, too: be what is out told at once, or at last.
	many := 1 << 17
	for _, far := range []int64{furthest, -(furthest - 1)} {
		fails(t, patch("abc", nulls(many), strings.Repeat(copySource(1, far), many)), "abc", api.ErrSize)
		fails(t, patch("abc", nulls(many+1), fromPatch("\x00"), strings.Repeat(copyTarget(1, far), many)), "abc", api.ErrSize)
	}
}

// G2: ErrSize, if what is made has not the output's sum.
func TestOutputSum(t *testing.T) {
	for _, c := range []struct{ made, told, actions string }{
		{"abc", "abd", fromSource(3)},
		{"abc", "cba", fromSource(3)},
		{"abc", "\x00\x00\x00", fromSource(3)},
		{"abX", "abc", fromSource(2) + fromPatch("X")},
		{"bca", "abc", copySource(2, 1) + copySource(1, -3)},
		{"aaa", "abc", fromSource(1) + copyTarget(2, 0)},
	} {
		makes(t, patch("abc", c.made, c.actions), "abc", c.made)
		fails(t, patch("abc", c.told, c.actions), "abc", api.ErrSize)
	}
	fails(t, raw("\x83\x80\x80", "abc", "a"), "abc", api.ErrSize)
	// The sum is that of the bytes: with its highest byte first it is another one.
	highest := "\x35\x24\x41\xC2"
	if sum("abc") != "\xC2\x41\x24\x35" {
		t.Fatalf("%X", sum("abc"))
	}
	fails(t, signed("BPS1\x83\x83\x80"+fromSource(3)+sum("abc")+highest), "abc", api.ErrSize)
	fails(t, signed("BPS1\x83\x83\x80"+fromSource(3)+highest+sum("abc")), "abc", api.ErrSum)
}

// G2: ErrSum, if x has not the input's size and sum, ahead of all that the actions do.
func TestInput(t *testing.T) {
	a := "abcdefgh"
	good := patch(a, "abX", fromSource(2), fromPatch("X"))
	out := patch(a, "abX", fromSource(2), copySource(1, 100))
	other := patch(a, "abY", fromSource(2), fromPatch("X"))
	makes(t, good, a, "abX")
	fails(t, out, a, api.ErrSize)
	fails(t, other, a, api.ErrSize)
	for _, x := range []string{"", "a", "abcdefg", "abcdefgX", "Xbcdefgh", "abcdefgh\x00", "\x00abcdefgh", "abcdefghi", "abX", nulls(8), a + a} {
		for _, p := range [][]byte{good, out, other} {
			fails(t, p, x, api.ErrSum)
		}
	}
	// The sum does not count where the size is another one, nor the size where the sum is.
	for _, s := range []string{"", "a", "abc", "abcde", a} {
		fails(t, good, forged(s, a), api.ErrSum)
	}
	fails(t, raw("\x87\x83\x80"+fromSource(2)+fromPatch("X"), a, "abX"), a, api.ErrSum)
	fails(t, raw("\x89\x83\x80"+fromSource(2)+fromPatch("X"), a, "abX"), a, api.ErrSum)
	fails(t, raw("\x88\x83\x80"+fromSource(2)+fromPatch("X"), "abX", "abX"), a, api.ErrSum)
	fails(t, raw("\x80\x83\x80"+fromPatch("abX"), a, "abX"), "", api.ErrSum)
	// An x that has both is as good as the input, whatever it is.
	twin := forged("wxyz", a)
	makes(t, patch(a, a, fromSource(8)), twin, twin)
	makes(t, patch(a, "XY", fromPatch("XY")), twin, "XY")
	fails(t, good, twin, api.ErrSize)
}

// G2: the errors of Parse come first; then ErrLarge for an x of more than 2^24 bytes, ahead of its size and sum.
func TestInputLarge(t *testing.T) {
	big, zeros := nulls(most+1), nulls(most)
	for _, p := range [][]byte{
		patch("ab", "ab", fromSource(2)),
		patch("ab", "ab", copySource(2, 5)),
		patch("ab", "aX", fromSource(2)),
		patch(zeros, "", ""),
		raw(number(most)+"\x80\x80", big, ""),
	} {
		fails(t, p, big, api.ErrLarge)
		fails(t, p, big+"ab", api.ErrLarge)
	}
	broken := patch("ab", "ab", fromSource(2))
	broken[len(broken)-1]++
	for _, c := range []struct {
		p []byte
		e api.Errno
	}{
		{nil, api.ErrForm},
		{[]byte("BPS2 and something behind it"), api.ErrForm},
		{broken, api.ErrSum},
		{raw("\x82\x82\x02", "ab", "ab"), api.ErrShort},
		{raw("\x82\x82\x85m", "ab", "ab"), api.ErrShort},
		{raw("\x82\x82\x80", "ab", "ab"), api.ErrSize},
		{raw("\x82\x82\x80"+fromSource(3), "ab", "ab"), api.ErrSize},
		{raw("\x82\x82\x80"+begin(bps.FromPatch, 2), "ab", "ab"), api.ErrShort},
	} {
		fails(t, c.p, big, c.e)
		fails(t, c.p, "cd", c.e)
		fails(t, c.p, "ab", c.e)
	}
	// Just 2^24 bytes are not too many.
	fails(t, patch("ab", "ab", fromSource(2)), zeros, api.ErrSum)
	makes(t, patch(zeros, "\x00X", fromSource(1), fromPatch("X")), zeros, "\x00X")
}

// G2: an input and an output of just 2^24 bytes, by each kind.
func TestApplyGreatest(t *testing.T) {
	c := numbers(5)
	x := string(c.bytes(1000, 256))
	x = strings.Repeat(x, most/1000+1)[:most]
	makes(t, patch(x, x, fromSource(most)), x, x)
	makes(t, patch(x, x, copySource(most, 0)), x, x)
	makes(t, patch(x, x[5:]+x[:5], copySource(most-5, 5), copySource(5, -most)), x, x[5:]+x[:5])
	makes(t, patch("", nulls(most), fromPatch("\x00"), copyTarget(most-1, 0)), "", nulls(most))
	makes(t, patch("", x, fromPatch(x[:1000]), copyTarget(most-1000, 0)), "", x)
	data := x[:most-100]
	makes(t, patch("", data, fromPatch(data)), "", data)
	fails(t, patch(x, x, fromSource(most-1), copySource(1, most)), x, api.ErrSize)
	fails(t, patch(x, x, fromSource(most-1), copyTarget(1, most-1)), x, api.ErrSize)
}

// G2: as many actions as bytes.
func TestApplyManyActions(t *testing.T) {
	const n = 300000
	x := strings.Repeat("abc", n/3)
	makes(t, patch(x, x, strings.Repeat(fromSource(1), n)), x, x)
	makes(t, patch("", x, strings.Repeat(fromPatch("a")+fromPatch("b")+fromPatch("c"), n/3)), "", x)
	makes(t, patch(x, x, strings.Repeat(copySource(1, 0), n)), x, x)
	makes(t, patch("", x, fromPatch("abc"), strings.Repeat(copyTarget(1, 0), n-3)), "", x)
}

// What follows: meta changes nothing of the output, nor of an error.
func TestMetaChangesNothing(t *testing.T) {
	for _, meta := range []string{"", "m", "\x00", "\x80\x80\x80", "BPS1", "<some>words</some>", string(patch("abc", "X", fromPatch("X"))), strings.Repeat("\xFF", 100000)} {
		makes(t, noted("abc", "abXabab", meta, fromSource(2), fromPatch("X"), copySource(2, 0), copyTarget(2, 3)), "abc", "abXabab")
		makes(t, noted("abc", "", meta), "abc", "")
		fails(t, noted("abc", "ab", meta, copySource(2, 2)), "abc", api.ErrSize)
		fails(t, noted("abc", "ab", meta, fromSource(2)), "abd", api.ErrSum)
		fails(t, noted("abc", "ab", meta, fromPatch("XY")), "abc", api.ErrSize)
	}
}

// R1: nothing that was handed in is changed or kept, and what is told is the caller's. R4: of the same the same.
func TestApplyOwn(t *testing.T) {
	from := "some bytes, and more of them"
	for _, d := range []doing{
		{[]string{fromSource(len(from))}, from},
		{[]string{copySource(len(from), 0)}, from},
		{[]string{fromPatch("other bytes")}, "other bytes"},
		{[]string{fromSource(5), fromPatch("bits"), copyTarget(4, 5), copySource(6, 10)}, "some bitsbits, and "},
		{nil, ""},
	} {
		wasP := noted(from, d.want, "meta", d.actions...)
		// Both lie in longer rows, so that writing behind their ends would be seen.
		p, x := append(bytes.Clone(wasP), "behind"...), []byte(from+"behind")
		out, e := bps.Apply(p[:len(wasP)], x[:len(from)])
		if string(out) != d.want || e != api.OK {
			t.Errorf("%q, %v", out, e)
		}
		again, _ := bps.Apply(p[:len(wasP)], x[:len(from)])
		clear(out)
		_ = append(out, "more"...)
		if string(again) != d.want || string(p) != string(wasP)+"behind" || string(x) != from+"behind" {
			t.Error("what is told shares bytes with others, or what was handed in is changed")
		}
		clear(p)
		clear(x)
		if string(again) != d.want {
			t.Error("what is told shares bytes with what was handed in")
		}
		makes(t, wasP, from, d.want)
	}
}

// R1: an error leaves what was handed in as it was, too. R4: it is told again.
func TestApplyErrorOwn(t *testing.T) {
	for _, p := range [][]byte{
		patch("abcd", "abX", fromSource(2), copySource(1, 4)),
		patch("abcd", "abX", fromSource(2), copyTarget(1, 2)),
		patch("abcd", "abX", fromSource(3)),
		patch("abce", "abc", fromSource(3)),
		raw("\x84\x82\x80\x85X", "abcd", "ab"),
	} {
		was, x := bytes.Clone(p), []byte("abcd")
		_, first := bps.Apply(p, x)
		_, second := bps.Apply(p, x)
		if first == api.OK || first != second || !bytes.Equal(p, was) || string(x) != "abcd" {
			t.Errorf("%q: %v, %v, %q", was, first, second, x)
		}
	}
}
