package bps_test

import (
	"bytes"
	"fmt"
	"slices"
	"strings"
	"testing"

	"picklock/api"
	"picklock/bps"
)

// only is the patch from a to b, without a meta, of one action.
func only(a, b string, action bps.Action) bps.Patch {
	return bps.Patch{In: len(a), Out: len(b), InSum: sumOf(a), OutSum: sumOf(b), L: []bps.Action{action}}
}

// G1: the kinds have their numbers.
func TestKinds(t *testing.T) {
	if got := [...]int{bps.FromSource, bps.FromPatch, bps.CopySource, bps.CopyTarget}; got != [...]int{0, 1, 2, 3} {
		t.Error(got)
	}
}

// G1: an action of each kind, part by part, from bytes that are written out; all else in it is zero.
func TestParseOne(t *testing.T) {
	for _, c := range []struct {
		bytes string
		b     string
		want  bps.Action
	}{
		{"\x80", "a", bps.Action{Kind: bps.FromSource, Len: 1}},
		{"\x84", "ab", bps.Action{Kind: bps.FromSource, Len: 2}},
		{"\xFC", nulls(32), bps.Action{Kind: bps.FromSource, Len: 32}},
		{"\x00\x80", nulls(33), bps.Action{Kind: bps.FromSource, Len: 33}},
		{"\x81X", "X", bps.Action{Kind: bps.FromPatch, Len: 1, Data: []byte("X")}},
		{"\x89\x00\x80\xFF", "\x00\x80\xFF", bps.Action{Kind: bps.FromPatch, Len: 3, Data: []byte("\x00\x80\xFF")}},
		{"\x01\x80" + nulls(33), nulls(33), bps.Action{Kind: bps.FromPatch, Len: 33, Data: []byte(nulls(33))}},
		{"\x82\x80", "a", bps.Action{Kind: bps.CopySource, Len: 1}},
		{"\x82\x81", "a", bps.Action{Kind: bps.CopySource, Len: 1}},
		{"\x86\x82", "bc", bps.Action{Kind: bps.CopySource, Len: 2, Move: 1}},
		{"\x86\x83", "bc", bps.Action{Kind: bps.CopySource, Len: 2, Move: -1}},
		{"\x02\x80\x2C\x81", nulls(33), bps.Action{Kind: bps.CopySource, Len: 33, Move: 150}},
		{"\x83\x80", "a", bps.Action{Kind: bps.CopyTarget, Len: 1}},
		{"\x83\x81", "a", bps.Action{Kind: bps.CopyTarget, Len: 1}},
		{"\x87\x86", "bc", bps.Action{Kind: bps.CopyTarget, Len: 2, Move: 3}},
		{"\x87\x87", "bc", bps.Action{Kind: bps.CopyTarget, Len: 2, Move: -3}},
		{"\x03\x80\x2D\x81", nulls(33), bps.Action{Kind: bps.CopyTarget, Len: 33, Move: -150}},
	} {
		isParsed(t, patch("abc", c.b, c.bytes), only("abc", c.b, c.want))
	}
}

// G1: moves up to the furthest that a number can say.
func TestParseMoves(t *testing.T) {
	moves := []int64{0, 1, -1, 63, -63, 64, -64, 1 << 24, -1 << 24, 1<<31 - 1, -(1<<31 - 1), furthest}
	for _, move := range moves {
		isParsed(t, patch("abc", "ab", copySource(2, move)), only("abc", "ab", bps.Action{Kind: bps.CopySource, Len: 2, Move: move}))
		isParsed(t, patch("abc", "ab", copyTarget(2, move)), only("abc", "ab", bps.Action{Kind: bps.CopyTarget, Len: 2, Move: move}))
	}
}

// G1: all kinds mixed, one behind the other, as often as may be.
func TestParseMixed(t *testing.T) {
	p := noted("abc", "abXYbcabab", "me", fromSource(2), fromPatch("XY"), copySource(2, 1), copyTarget(3, -7), fromPatch("b"))
	isParsed(t, p, bps.Patch{In: 3, Out: 10, InSum: sumOf("abc"), OutSum: sumOf("abXYbcabab"), Meta: []byte("me"), L: []bps.Action{
		{Kind: bps.FromSource, Len: 2},
		{Kind: bps.FromPatch, Len: 2, Data: []byte("XY")},
		{Kind: bps.CopySource, Len: 2, Move: 1},
		{Kind: bps.CopyTarget, Len: 3, Move: -7},
		{Kind: bps.FromPatch, Len: 1, Data: []byte("b")},
	}})
	var want []bps.Action
	var actions string
	for i := range 3000 {
		// Next to each other stand actions of the same kind, too.
		switch a := (bps.Action{Kind: i / 2 % 4, Len: 1 + i%3}); a.Kind {
		case bps.FromSource:
			want, actions = append(want, a), actions+fromSource(a.Len)
		case bps.FromPatch:
			a.Data = []byte("abc")[:a.Len]
			want, actions = append(want, a), actions+fromPatch(string(a.Data))
		default:
			a.Move = int64(i - 1500)
			want, actions = append(want, a), actions+begin(a.Kind, a.Len)+turned(a.Move)
		}
	}
	out := nulls(6000)
	isParsed(t, patch("", out, actions), bps.Patch{Out: 6000, OutSum: sumOf(out), L: want})
}

// G1: both sizes, up to the greatest; the input's has nothing to do with what the actions write.
func TestParseSizes(t *testing.T) {
	for _, n := range []int{0, 1, 2, 127, 128, 16511, 16512, most - 1, most} {
		p := raw(number(uint64(n))+number(2)+"\x80"+fromSource(2), "abc", "ab")
		isParsed(t, p, bps.Patch{In: n, Out: 2, InSum: sumOf("abc"), OutSum: sumOf("ab"), L: []bps.Action{{Len: 2}}})
		if n > 0 {
			p = raw(number(3)+number(uint64(n))+"\x80"+fromSource(n), "abc", "ab")
			isParsed(t, p, bps.Patch{In: 3, Out: n, InSum: sumOf("abc"), OutSum: sumOf("ab"), L: []bps.Action{{Len: n}}})
		}
	}
	isParsed(t, raw("\x80\x80\x80", "", ""), bps.Patch{})
	isParsed(t, raw("\x83\x80\x80", "abc", ""), bps.Patch{In: 3, InSum: sumOf("abc")})
}

// G1: the sums of the input and of the output are those that stand there, whatever bytes they are of, the lowest byte first.
func TestParseSums(t *testing.T) {
	p := signed("BPS1\x82\x82\x80\x84" + "\x01\x02\x03\x04" + "\xFF\xFE\xFD\xFC")
	isParsed(t, p, bps.Patch{In: 2, Out: 2, InSum: 0x04030201, OutSum: 0xFCFDFEFF, L: []bps.Action{{Len: 2}}})
	p = signed("BPS1\x82\x82\x80\x84" + "\x00\x00\x00\x00" + "\x00\x00\x00\x80")
	isParsed(t, p, bps.Patch{In: 2, Out: 2, OutSum: 0x80000000, L: []bps.Action{{Len: 2}}})
}

// G1: a meta of no bytes, of one, and of many, whatever they are; the actions begin right behind it.
func TestParseMeta(t *testing.T) {
	metas := []string{"", "m", "\x80", "\x00", "me", "BPS1", strings.Repeat("\xFF", 127), nulls(128), strings.Repeat("some words. ", 20000)}
	for _, meta := range metas {
		want := only("abc", "aX", bps.Action{Len: 1})
		want.Meta = []byte(meta)
		want.L = append(want.L, bps.Action{Kind: bps.FromPatch, Len: 1, Data: []byte("X")})
		isParsed(t, noted("abc", "aX", meta, fromSource(1), fromPatch("X")), want)
		isParsed(t, noted("", "", meta), bps.Patch{Meta: []byte(meta)})
	}
}

// G1: ErrLarge, if a patch has more than 2^24 bytes, whatever else is wrong with it; just as many are not too many.
func TestParseLarge(t *testing.T) {
	whole := noted("abc", "ab", nulls(most), fromSource(2))
	meta := nulls(most - (len(whole) - most))
	whole = noted("abc", "ab", meta, fromSource(2))
	if len(whole) != most {
		t.Fatalf("%d bytes", len(whole))
	}
	want := only("abc", "ab", bps.Action{Len: 2})
	want.Meta = []byte(meta)
	isParsed(t, whole, want)
	makes(t, whole, "abc", "ab")
	isNone(t, noted("abc", "ab", meta+"\x00", fromSource(2)), api.ErrLarge)
	isNone(t, append(bytes.Clone(whole), 0), api.ErrLarge)
	isNone(t, make([]byte, most+1), api.ErrLarge)
	isNone(t, raw(strings.Repeat("\x7F", most), "", ""), api.ErrLarge)
	isNone(t, make([]byte, most), api.ErrForm)
	whole[most-1]++
	isNone(t, whole, api.ErrSum)
}

// G1: ErrForm, if a patch has fewer than 19 bytes, or does not begin as it must; ahead of a last sum that does not fit.
func TestForm(t *testing.T) {
	whole := patch("ab", "aX", fromSource(1), fromPatch("X"))
	for n := range 19 {
		isNone(t, whole[:n], api.ErrForm)
		if n >= 4 {
			isNone(t, signed(string(whole[:n-4])), api.ErrForm)
		}
	}
	isNone(t, nil, api.ErrForm)
	isNone(t, raw("", "", ""), api.ErrForm)
	isNone(t, raw("\x80\x80", "", ""), api.ErrForm)
	isNone(t, whole[:19], api.ErrSum)
	for at := range 4 {
		for _, x := range []byte{1, 0x20, 0x80, 0xFF} {
			other := bytes.Clone(whole)
			other[at] ^= x
			isNone(t, other, api.ErrForm)
			isNone(t, signed(string(other[:len(other)-4])), api.ErrForm)
		}
	}
	for _, s := range []string{"BPS2", "bps1", "BPS\x01", "BPS", " BPS1", "UPS1", "PATCH", "1SPB"} {
		isNone(t, signed(s+"\x82\x82\x80\x84"+sum("ab")+sum("ab")), api.ErrForm)
	}
}

// G1: ErrSum, if the last four bytes are not the sum of all ahead: so it is if up to four neighbours were changed, be it in the sum itself.
func TestLastSum(t *testing.T) {
	whole := noted("abcd", "XbcYXb", "me", fromPatch("X"), copySource(2, 1), fromPatch("Y"), copyTarget(2, 0))
	makes(t, whole, "abcd", "XbcYXb")
	c := numbers(3)
	for n := 1; n <= 4; n++ {
		for at := 4; at+n <= len(whole); at++ {
			for range 20 {
				other := bytes.Clone(whole)
				for i := range n {
					other[at+i] ^= byte(1 + c.below(255))
				}
				isNone(t, other, api.ErrSum)
				fails(t, other, "abcd", api.ErrSum)
			}
		}
	}
	// The sum with its highest byte first, or of less than all ahead, is another one.
	ahead := string(whole[:len(whole)-4])
	last := []byte(sum(ahead))
	slices.Reverse(last)
	isNone(t, []byte(ahead+string(last)), api.ErrSum)
	isNone(t, []byte(ahead+sum(ahead[:len(ahead)-4])), api.ErrSum)
	isNone(t, []byte(ahead+sum(ahead[4:])), api.ErrSum)
	isNone(t, append(bytes.Clone(whole), 0), api.ErrSum)
}

// G1: the last sum comes ahead of all that is wrong further left.
func TestLastSumFirst(t *testing.T) {
	for _, body := range []string{
		"\x82\x82\x02", "\x7F\x7F\x7F\x7F\x7F\x80\x80", number(most+1) + "\x82\x80", "\x82\x82\x85m", "\x82\x82\x80\x04", "\x82\x82\x80\x88", "\x82\x82\x80\x85X", "\x82\x82\x80\x86", "\x82\x82\x80\x80",
	} {
		p := raw(body, "ab", "ab")
		p[len(p)-1]++
		isNone(t, p, api.ErrSum)
	}
}

// G1: the error of Take of a size, or of how many bytes the meta has; no number reaches into the last twelve bytes.
func TestNumbersTaken(t *testing.T) {
	a, b := highSums()
	for _, c := range []struct {
		body string
		e    api.Errno
	}{
		// Cut: the first one, the second one, and the third one.
		{"\x02\x02\x02", api.ErrShort},
		{"\x00\x00\x00\x00\x00", api.ErrShort},
		{"\x00\x7F\x7E\x7E\x0E", api.ErrShort},
		{"\x80\x02\x02", api.ErrShort},
		{"\x02\x82\x02", api.ErrShort},
		{"\x7F\x7F\xFF", api.ErrShort},
		{"\x82\x7F\x7E\x7E\x7E\x0E", api.ErrShort},
		{"\x82\x82\x02", api.ErrShort},
		{"\x82\x82\x00\x7F\x7E\x7E\x0E", api.ErrShort},
		{"\x7F\x7F\xFF\xFF", api.ErrShort},
		// Too great: the first one, the second one, and the third one, be they cut or not.
		{"\x01\x7F\x7E\x7E\x8E\x82\x82", api.ErrSize},
		{"\x01\x7F\x7E\x7E\x0E", api.ErrSize},
		{"\x7F\x7F\x7F\x7F\x7F\x82\x82", api.ErrSize},
		{"\x00\x00\x00\x00\x00\x00", api.ErrSize},
		{"\x82\x01\x7F\x7E\x7E\x8E\x82", api.ErrSize},
		{"\x82\x01\x7F\x7E\x7E\x0E", api.ErrSize},
		{"\x82\x7F\x7F\x7F\x7F\x7F", api.ErrSize},
		{"\x82\x82\x01\x7F\x7E\x7E\x8E", api.ErrSize},
		{"\x82\x82\x01\x7F\x7E\x7E\x0E", api.ErrSize},
		{"\x82\x82\x7F\x7F\x7F\x7F\x7F\x80", api.ErrSize},
		// The first one counts where one further right is wrong too.
		{"\x01\x7F\x7E\x7E\x8E\x02\x02", api.ErrSize},
		{"\x82\x01\x7F\x7E\x7E\x8E\x02", api.ErrSize},
		{"\x01\x7F\x7E\x7E\x8E", api.ErrSize},
	} {
		isNone(t, raw(c.body, a, b), c.e)
		isNone(t, raw(c.body, "ab", "ab"), c.e)
	}
}

// G1: ErrLarge for a size above 2^24, behind what Take tells of the three numbers, and ahead of meta and actions.
func TestSizesLarge(t *testing.T) {
	for _, n := range []uint64{most + 1, most + 2, 1 << 25, 1<<32 - 1, greatest} {
		for _, behind := range []string{"\x80", "\x80\x84", "\x85m", number(greatest), "\x80\x04", "\x80\x7F\x7F\x7F\x7F\x7F", "\x80\x85", "\x80\x86"} {
			isNone(t, raw(number(n)+"\x82"+behind, "ab", "ab"), api.ErrLarge)
			isNone(t, raw("\x82"+number(n)+behind, "ab", "ab"), api.ErrLarge)
			isNone(t, raw(number(n)+number(n)+behind, "ab", "ab"), api.ErrLarge)
		}
		isNone(t, raw(number(n)+"\x02\x02", "ab", "ab"), api.ErrShort)
		isNone(t, raw(number(n)+"\x82\x02", "ab", "ab"), api.ErrShort)
		isNone(t, raw("\x82"+number(n)+"\x02", "ab", "ab"), api.ErrShort)
		isNone(t, raw(number(n)+"\x7F\x7F\x7F\x7F\x7F\x80", "ab", "ab"), api.ErrSize)
		isNone(t, raw(number(n)+"\x82\x7F\x7F\x7F\x7F\x7F", "ab", "ab"), api.ErrSize)
		isNone(t, raw("\x82"+number(n)+"\x7F\x7F\x7F\x7F\x7F", "ab", "ab"), api.ErrSize)
	}
}

// G1: ErrShort for too few bytes of meta, which does not reach into the last twelve bytes; as many as a number can say are not too large.
func TestMetaShort(t *testing.T) {
	for _, c := range []struct {
		told  uint64
		there string
	}{
		{1, ""}, {2, "m"}, {5, "\x84"}, {12, ""}, {13, "m"}, {128, nulls(127)},
		{most, "m"}, {most + 1, "m"}, {1 << 31, "m"}, {1<<32 - 1, "m"}, {greatest, "m"}, {greatest, ""},
	} {
		isNone(t, raw("\x82\x82"+number(c.told)+c.there, "ab", "ab"), api.ErrShort)
		isNone(t, raw("\x80\x80"+number(c.told)+c.there, "", ""), api.ErrShort)
	}
	// All that is there is meta: it is not short, but the output is.
	isNone(t, raw("\x82\x82\x81\x84", "ab", "ab"), api.ErrSize)
	isParsed(t, raw("\x82\x80\x81\x84", "ab", ""), bps.Patch{In: 2, InSum: sumOf("ab"), Meta: []byte("\x84")})
}

// G1: the error of Take of the number that an action begins with, of the first one and of one behind others.
func TestBeginTaken(t *testing.T) {
	a, b := highSums()
	for _, ahead := range []string{"", fromSource(1), fromPatch("\x80"), copySource(1, 5), copyTarget(1, -5), fromSource(5)} {
		for _, c := range []struct {
			bytes string
			e     api.Errno
		}{
			{"\x04", api.ErrShort},
			{"\x00", api.ErrShort},
			{"\x7F\x7F\x7F\x7F", api.ErrShort},
			{"\x00\x7F\x7E\x7E\x0E", api.ErrShort},
			{"\x01\x7F\x7E\x7E\x8E", api.ErrSize},
			{"\x01\x7F\x7E\x7E\x0E", api.ErrSize},
			{"\x7F\x7F\x7F\x7F\x7F", api.ErrSize},
		} {
			isNone(t, raw(number(5)+number(5)+"\x80"+ahead+c.bytes, a, b), c.e)
		}
	}
}

// G1: ErrSize for Lens that are together more than the output's size, ahead of what follows in that action, or behind it.
func TestLensMore(t *testing.T) {
	for _, behind := range []string{"", "X", "XYZX", "\x80", "\x00", "\x7F\x7F\x7F\x7F\x7F", "\x80\x04"} {
		for kind := range 4 {
			for _, ahead := range []string{"", fromSource(1), fromPatch("X"), copySource(2, 1), fromPatch("XYZ"), fromSource(1) + fromPatch("X") + copyTarget(1, 0)} {
				isNone(t, raw("\x83\x83\x80"+ahead+begin(kind, 4)+behind, "abc", "abc"), api.ErrSize)
				isNone(t, raw("\x80\x80\x80"+ahead+begin(kind, 1)+behind, "", ""), api.ErrSize)
				for _, n := range []int{most, most + 1, 1 << 29, 1 << 30} {
					isNone(t, raw("\x83\x83\x80"+ahead+begin(kind, n)+behind, "abc", "abc"), api.ErrSize)
				}
			}
			isNone(t, raw("\x83\x83\x80"+fromSource(2)+begin(kind, 2)+behind, "abc", "abc"), api.ErrSize)
			isNone(t, raw("\x83\x83\x80"+fromSource(3)+begin(kind, 1)+behind, "abc", "abc"), api.ErrSize)
		}
		isNone(t, raw("\x83\x83\x80"+number(greatest)+behind, "abc", "abc"), api.ErrSize)
		isNone(t, raw("\x83"+number(most)+"\x80"+fromSource(most)+fromSource(1)+behind, "abc", "abc"), api.ErrSize)
		isNone(t, raw("\x83"+number(most)+"\x80"+fromSource(1)+fromSource(most)+behind, "abc", "abc"), api.ErrSize)
	}
	// However often as many as a number can say, nothing is counted round.
	isNone(t, raw("\x83\x83\x80"+fromSource(2)+strings.Repeat(number(1<<32-4), 4)+fromSource(1), "abc", "abc"), api.ErrSize)
	isNone(t, raw("\x83\x83\x80"+strings.Repeat(number(1<<32-4), 4)+fromSource(3), "abc", "abc"), api.ErrSize)
}

// G1: ErrShort for too few bytes of Data, which do not reach into the last twelve bytes.
func TestDataShort(t *testing.T) {
	for _, ahead := range []string{"", fromSource(2), fromPatch("XY"), copySource(2, 1), copyTarget(2, -1)} {
		for n := 1; n <= 15; n++ {
			size := number(uint64(n + 2))
			for there := range n {
				isNone(t, raw("\x83"+size+"\x80"+ahead+begin(bps.FromPatch, n)+nulls(there), "abc", "abc"), api.ErrShort)
			}
		}
	}
	isNone(t, raw("\x83"+number(most)+"\x80"+begin(bps.FromPatch, most)+"X", "abc", "abc"), api.ErrShort)
	isNone(t, raw("\x83"+number(most)+"\x80"+begin(bps.FromPatch, most), "abc", "abc"), api.ErrShort)
}

// G1: the error of Take of the number that Move is told by.
func TestMoveTaken(t *testing.T) {
	a, b := highSums()
	for _, ahead := range []string{"", fromSource(1), fromPatch("\x80"), copySource(1, 5), copyTarget(1, -5)} {
		for _, c := range []struct {
			bytes string
			e     api.Errno
		}{
			{"", api.ErrShort},
			{"\x04", api.ErrShort},
			{"\x7F\x7F\x7F\x7F", api.ErrShort},
			{"\x00\x7F\x7E\x7E\x0E", api.ErrShort},
			{"\x01\x7F\x7E\x7E\x8E", api.ErrSize},
			{"\x01\x7F\x7E\x7E\x0E", api.ErrSize},
			{"\x7F\x7F\x7F\x7F\x7F", api.ErrSize},
		} {
			for _, kind := range []int{bps.CopySource, bps.CopyTarget} {
				for n := 1; n <= 4; n++ {
					isNone(t, raw(number(5)+number(5)+"\x80"+ahead+begin(kind, n)+c.bytes, a, b), c.e)
				}
			}
		}
	}
}

// G1: behind all, ErrSize for Lens that are together less than the output's size; ahead of it all that is wrong in an action.
func TestLensLess(t *testing.T) {
	for _, c := range []struct {
		actions string
		e       api.Errno
	}{
		{"", api.ErrSize},
		{fromSource(1), api.ErrSize},
		{fromSource(4), api.ErrSize},
		{fromPatch("abcd"), api.ErrSize},
		{copySource(4, 0), api.ErrSize},
		{fromPatch("a") + copyTarget(3, 0), api.ErrSize},
		{fromSource(1) + fromPatch("a") + copySource(1, 0) + copyTarget(1, 0), api.ErrSize},
		{fromSource(1) + "\x04", api.ErrShort},
		{fromSource(1) + begin(bps.FromPatch, 3) + "ab", api.ErrShort},
		{fromSource(1) + begin(bps.CopySource, 3), api.ErrShort},
		{fromSource(1) + begin(bps.CopyTarget, 3) + "\x00", api.ErrShort},
	} {
		isNone(t, raw("\x83\x85\x80"+c.actions, "abc", "abcde"), c.e)
	}
	isNone(t, raw("\x80\x81\x80", "", ""), api.ErrSize)
	isNone(t, raw("\x83"+number(most)+"\x80"+fromSource(most-1), "abc", "abc"), api.ErrSize)
}

// G1: of the actions' errors the one that stands furthest left counts, action by action, part by part.
func TestActionsFromTheLeft(t *testing.T) {
	for _, c := range []struct {
		actions string
		e       api.Errno
	}{
		{begin(0, 4) + "\x04", api.ErrSize},                   // too many, then a number that is cut
		{"\x04", api.ErrShort},                                // a number that is cut, though it would be too many
		{begin(1, 4) + "ab", api.ErrSize},                     // too many, with too few bytes
		{begin(1, 3) + "ab", api.ErrShort},                    // too few bytes, and no more actions
		{begin(2, 4), api.ErrSize},                            // too many, with no move
		{begin(2, 3), api.ErrShort},                           // no move
		{begin(3, 4) + "\x7F\x7F\x7F\x7F\x7F", api.ErrSize},   // too many, with a move that is too great
		{begin(3, 3) + "\x01", api.ErrShort},                  // a move that is cut
		{begin(2, 3) + "\x7F\x7F\x7F\x7F\x7F", api.ErrSize},   // a move that is too great
		{begin(3, 1) + "\x00\x04" + begin(0, 9), api.ErrSize}, // too many, behind a move of more than one byte
		{begin(2, 1) + "\x80" + begin(1, 2) + "a", api.ErrShort},
		{begin(0, 2) + begin(1, 2) + "a", api.ErrSize},
		{begin(0, 2) + "\x01", api.ErrShort},
	} {
		isNone(t, raw("\x83\x83\x80"+c.actions, "abc", "abc"), c.e)
		isNone(t, raw("\x83\x83\x82me"+c.actions, "abc", "abc"), c.e)
	}
}

// lists tells all lists of bytes that a patch has.
func lists(p bps.Patch) [][]byte {
	out := [][]byte{p.Meta}
	for _, a := range p.L {
		out = append(out, a.Data)
	}
	return out
}

// R1: nothing that was handed in is changed or kept; Meta and each Data are the caller's, and share nothing with each other. R4: of the same the same.
func TestParseOwn(t *testing.T) {
	was := noted("abc", "abcdefghijklm", "some meta", fromPatch("abcd"), fromPatch("efgh"), fromPatch("i"), fromPatch("j"), copyTarget(1, 0), fromPatch("lm"))
	// The patch lies in a longer row, so that writing behind its end would be seen.
	row := append(bytes.Clone(was), "behind"...)
	p := row[:len(was)]
	first, e := bps.Parse(p)
	second, again := bps.Parse(p)
	if e != api.OK || again != api.OK || !samePatch(first, second) {
		t.Fatal(first, e, second, again)
	}
	want := fmt.Sprint(second)
	for i, list := range lists(first) {
		others := lists(first)
		others[i] = nil
		told := fmt.Sprint(others)
		clear(list)
		_ = append(list, "more bytes than any of them have"...)
		if fmt.Sprint(others) != told {
			t.Errorf("list %d shares bytes with another one", i)
		}
	}
	clear(first.L)
	if string(row) != string(was)+"behind" || fmt.Sprint(second) != want {
		t.Error("what is told shares bytes with others")
	}
	clear(row)
	if fmt.Sprint(second) != want {
		t.Error("what is told shares bytes with what was handed in")
	}
	isParsed(t, was, second)
}

// R1: an error leaves what was handed in as it was, too. R4: it is told again.
func TestParseErrorOwn(t *testing.T) {
	for _, body := range []string{"\x82\x82\x82m", "\x82\x82\x80\x85X", "\x82\x82\x80\x88", "\x82\x82\x81m\x80"} {
		p := raw(body, "ab", "ab")
		was := bytes.Clone(p)
		_, first := bps.Parse(p)
		_, second := bps.Parse(p)
		if first == api.OK || first != second || !bytes.Equal(p, was) {
			t.Errorf("%q: %v, %v", was, first, second)
		}
	}
}
