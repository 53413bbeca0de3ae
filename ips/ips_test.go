package ips_test

import (
	"bytes"
	"fmt"
	"slices"
	"testing"

	"picklock/api"
	"picklock/ips"
)

// most is how many bytes a patch, an input and an output have at most.
const most = 1 << 24

// uncut is the length to which is cut where there is none.
const uncut = -1

func patch(parts ...string) []byte {
	p := "PATCH"
	for _, s := range parts {
		p += s
	}
	return []byte(p)
}

// number tells the lowest n bytes of u, the highest first.
func number(u, n int) string {
	var s string
	for i := n - 1; i >= 0; i-- {
		s += string([]byte{byte(u >> (8 * i))})
	}
	return s
}

// data is a record of bytes, run a record of a byte so many times.
func data(at int, b string) string { return number(at, 3) + number(len(b), 2) + b }
func run(at, times int, b byte) string {
	return number(at, 3) + "\x00\x00" + number(times, 2) + string([]byte{b})
}

// sameRecords holds records against each other field by field.
func sameRecords(a, b []ips.Record) bool {
	return slices.EqualFunc(a, b, func(x, y ips.Record) bool {
		return x.At == y.At && x.Run == y.Run && bytes.Equal(x.Data, y.Data)
	})
}

func parses(t *testing.T, p []byte, want []ips.Record, cut int) {
	t.Helper()
	if l, c, e := ips.Parse(p); !sameRecords(l, want) || c != cut || e != api.OK {
		t.Errorf("%.60q: %v, %d, %v instead of %v, %d", p, l, c, e, want, cut)
	}
}

// fails is for a patch whose Parse tells e and nothing else, and whose Apply does so too, whatever the input is.
func fails(t *testing.T, p []byte, e api.Errno) {
	t.Helper()
	if l, c, got := ips.Parse(p); len(l) != 0 || c != 0 || got != e {
		t.Errorf("Parse(%.60q): %d records, %d, %v instead of %v", p, len(l), c, got, e)
	}
	for _, x := range []string{"", "xyz", "a longer row of bytes than all that is patched"} {
		if out, got := ips.Apply(p, []byte(x)); len(out) != 0 || got != e {
			t.Errorf("Apply(%.60q, %q): %d bytes, %v instead of %v", p, x, len(out), got, e)
		}
	}
}

func makes(t *testing.T, p []byte, x, want string) {
	t.Helper()
	if out, e := ips.Apply(p, []byte(x)); string(out) != want || e != api.OK {
		t.Errorf("%.60q of %q: %q, %v instead of %q", p, x, out, e, want)
	}
}

// tooLarge is for a patch that can be parsed, but not be applied to x.
func tooLarge(t *testing.T, p, x []byte) {
	t.Helper()
	if _, _, e := ips.Parse(p); e != api.OK {
		t.Errorf("%.60q can't be parsed: %v", p, e)
	}
	if out, e := ips.Apply(p, x); len(out) != 0 || e != api.ErrLarge {
		t.Errorf("%.60q: %d bytes, %v", p, len(out), e)
	}
}

// D1: records of bytes and of a byte so many times, in order, with all of their numbers' bytes, and the cut.
func TestParse(t *testing.T) {
	long := string(bytes.Repeat([]byte("0123456789abcde"), 4369)) // 65535 bytes
	for _, c := range []struct {
		p    []byte
		want []ips.Record
		cut  int
	}{
		{patch("EOF"), nil, uncut},
		{patch("EOF\x00\x00\x00"), nil, 0},
		{patch("EOF\x01\x02\x03"), nil, 0x010203},
		{patch("EOF\xFF\xFF\xFF"), nil, most - 1},
		{patch("EOFEOF"), nil, 0x454F46},
		{patch("\x00\x00\x01\x00\x02ABEOF"), []ips.Record{{At: 1, Data: []byte("AB")}}, uncut},
		{patch("\x01\x02\x03\x00\x01AEOF"), []ips.Record{{At: 0x010203, Data: []byte("A")}}, uncut},
		{patch("\xFF\xFF\xFF\x00\x01AEOF"), []ips.Record{{At: most - 1, Data: []byte("A")}}, uncut},
		{patch("\x01\x02\x03\x00\x00\x04\x05AEOF"), []ips.Record{{At: 0x010203, Run: 0x0405, Data: []byte("A")}}, uncut},
		{patch("\x00\x00\x00\x00\x00\x00\x01\x00EOF"), []ips.Record{{Run: 1, Data: []byte{0}}}, uncut},
		{patch("\x00\x00\x00\x00\x00\xFF\xFF\xFFEOF"), []ips.Record{{Run: 65535, Data: []byte{0xFF}}}, uncut},
		{patch(data(7, long[:256]), "EOF"), []ips.Record{{At: 7, Data: []byte(long[:256])}}, uncut},
		{patch(data(7, long), "EOF"), []ips.Record{{At: 7, Data: []byte(long)}}, uncut},
		{
			patch(data(9, "abc"), run(2, 5, 'z'), data(0, "q"), data(9, "abc"), "EOF", number(6, 3)),
			[]ips.Record{{At: 9, Data: []byte("abc")}, {At: 2, Run: 5, Data: []byte("z")}, {Data: []byte("q")}, {At: 9, Data: []byte("abc")}},
			6,
		},
	} {
		parses(t, c.p, c.want, c.cut)
	}
}

// D1: where a record could begin, `EOF` is the end; anywhere else it is bytes like others.
func TestEnd(t *testing.T) {
	parses(t, patch(data(3, "EOF"), "EOF"), []ips.Record{{At: 3, Data: []byte("EOF")}}, uncut)
	parses(t, patch(data(3, "EOFEOF\x00\x00"), "EOF\x00\x00\x05"), []ips.Record{{At: 3, Data: []byte("EOFEOF\x00\x00")}}, 5)
	parses(t, patch(data(3, "xE"), data(0x4F4600, "y"), "EOF"), []ips.Record{{At: 3, Data: []byte("xE")}, {At: 0x4F4600, Data: []byte("y")}}, uncut)
	parses(t, patch(run(0x4546, 0x4F46, 'E'), "EOF"), []ips.Record{{At: 0x4546, Run: 0x4F46, Data: []byte("E")}}, uncut)
	parses(t, patch(run(0, 0x454F, 'F'), "EOF"), []ips.Record{{Run: 0x454F, Data: []byte("F")}}, uncut)
	// Places on both sides of the one that is the end.
	parses(t, patch(data(0x454F45, "a"), data(0x454F47, "b"), "EOF"), []ips.Record{{At: 0x454F45, Data: []byte("a")}, {At: 0x454F47, Data: []byte("b")}}, uncut)
	parses(t, patch(data(0x464F45, "a"), "EOF"), []ips.Record{{At: 0x464F45, Data: []byte("a")}}, uncut)
	// What would be a record at that place is what stands behind the end: too much of it.
	fails(t, patch(data(0x454F46, "ab"), "EOF"), api.ErrForm)
	fails(t, patch(run(0x454F46, 2, 'a'), "EOF"), api.ErrForm)
	fails(t, patch(data(0x454F46, "ab")), api.ErrForm)
	// Small letters, and an end of another order, are no end.
	fails(t, patch("eof"), api.ErrShort)
	fails(t, patch("FOE"), api.ErrShort)
}

// D1: ErrForm, if a patch does not begin as it must, or is shorter.
func TestHead(t *testing.T) {
	for n := range len("PATCH") {
		fails(t, []byte("PATCH")[:n], api.ErrForm)
		b := patch("EOF")
		b[n]++
		fails(t, b, api.ErrForm)
		fails(t, b[:5], api.ErrForm)
	}
	fails(t, nil, api.ErrForm)
	for _, s := range []string{"\x00", "EOF", "patchEOF", "PATCEOF", " PATCHEOF", "CATCHEOF", "PATHCEOF", "UPS1", "BPS1\x80\x80\x80"} {
		fails(t, []byte(s), api.ErrForm)
	}
}

// D1: ErrShort, wherever a patch ends though something must follow.
func TestShort(t *testing.T) {
	whole := patch(data(1, "abc"), run(0x010203, 258, 'z'), data(4, "EOF"), "EOF")
	for n := range whole {
		if n < len("PATCH") {
			fails(t, whole[:n], api.ErrForm)
		} else {
			fails(t, whole[:n], api.ErrShort)
		}
	}
	parses(t, whole, []ips.Record{{At: 1, Data: []byte("abc")}, {At: 0x010203, Run: 258, Data: []byte("z")}, {At: 4, Data: []byte("EOF")}}, uncut)
	fails(t, patch("\x00\x00\x00\xFF\xFF", string(make([]byte, 65534))), api.ErrShort)
	fails(t, patch("\x00\x00\x00\xFF\xFF", string(make([]byte, 65535))), api.ErrShort)
}

// D1: none or three bytes behind `EOF`; one or two are too few, more too many, whatever they are.
func TestBehindTheEnd(t *testing.T) {
	for _, ahead := range []string{"", data(1, "ab"), run(1, 3, 'z')} {
		for _, x := range []string{"\x00", "E", "\xFF"} {
			for n, e := range map[int]api.Errno{1: api.ErrShort, 2: api.ErrShort, 4: api.ErrForm, 5: api.ErrForm, 6: api.ErrForm, 300: api.ErrForm} {
				fails(t, patch(ahead, "EOF", string(bytes.Repeat([]byte(x), n))), e)
			}
			if _, cut, e := ips.Parse(patch(ahead, "EOF", x+x+x)); cut != int(x[0])*0x010101 || e != api.OK {
				t.Error(ahead, x, cut, e)
			}
		}
	}
	fails(t, patch("EOFEOFEOF"), api.ErrForm)
	fails(t, patch("EOF\x00\x00\x01EOF"), api.ErrForm)
}

// D1: ErrForm, if a byte comes 0 times, also where the byte itself is missing, since that stands further right.
func TestNoTimes(t *testing.T) {
	for _, behind := range []string{"", "Z", "ZE", "ZEOF", "ZEOF\x00", "ZEOF\x00\x00\x01", data(1, "a")} {
		for _, ahead := range []string{"", data(1, "ab"), run(1, 3, 'z')} {
			fails(t, patch(ahead, "\x00\x00\x01\x00\x00\x00\x00", behind), api.ErrForm)
		}
	}
	// One byte less, and how many times is not told yet.
	fails(t, patch("\x00\x00\x01\x00\x00\x00"), api.ErrShort)
	// From 1 on.
	parses(t, patch(run(1, 1, 'Z'), "EOF"), []ips.Record{{At: 1, Run: 1, Data: []byte("Z")}}, uncut)
	parses(t, patch(run(1, 256, 'Z'), "EOF"), []ips.Record{{At: 1, Run: 256, Data: []byte("Z")}}, uncut)
}

// full is a patch of so many bytes, from 2^24 - 60000 on.
func full(size int) []byte {
	p := patch()
	for left := size - len("PATCHEOF"); left > 0; {
		n := min(left-5, 65535)
		if rest := left - 5 - n; rest > 0 && rest < 6 {
			n -= 6
		}
		p = append(p, number(0, 3)...)
		p = append(p, number(n, 2)...)
		p = append(p, make([]byte, n)...)
		left -= 5 + n
	}
	return append(p, "EOF"...)
}

// D1: ErrLarge, of more than 2^24 bytes, ahead of all else.
func TestLargePatch(t *testing.T) {
	p := full(most)
	if len(p) != most {
		t.Fatal(len(p))
	}
	if l, cut, e := ips.Parse(p); len(l) != 256 || cut != uncut || e != api.OK {
		t.Error(len(l), cut, e)
	}
	if out, e := ips.Apply(p, []byte("x")); len(out) != 65535 || e != api.OK {
		t.Error(len(out), e)
	}
	p = full(most + 1)
	if len(p) != most+1 {
		t.Fatal(len(p))
	}
	fails(t, p, api.ErrLarge)
	fails(t, make([]byte, most+1), api.ErrLarge)                                   // not `PATCH`
	fails(t, append(patch(), make([]byte, most)...), api.ErrLarge)                 // a byte that comes 0 times
	fails(t, append(patch(run(0, 1, 'x')), make([]byte, most-5)...), api.ErrLarge) // so too
	// With 2^24 bytes, the other errors are told.
	fails(t, make([]byte, most), api.ErrForm)
	fails(t, full(most + 1)[:most], api.ErrShort)
}

// D2: ordinary patches, the chapter's example first.
func TestApply(t *testing.T) {
	makes(t, []byte("PATCH\x00\x00\x01\x00\x02\x41\x42EOF"), "xyz", "xAB")
	for _, c := range []struct{ p, x, want string }{
		{"EOF", "", ""},
		{"EOF", "xyz", "xyz"},
		{data(0, "A") + "EOF", "xyz", "Ayz"},
		{data(2, "A") + "EOF", "xyz", "xyA"},
		{data(0, "ABC") + "EOF", "xyz", "ABC"},
		{data(0, "ABCD") + "EOF", "xyz", "ABCD"},
		{data(0, "ABCD") + "EOF", "", "ABCD"},
		{run(1, 1, 'A') + "EOF", "xyz", "xAz"},
		{run(0, 3, 'A') + "EOF", "xyz", "AAA"},
		{run(2, 4, 'A') + "EOF", "xyz", "xyAAAA"},
		{run(0, 2, 'A') + "EOF", "", "AA"},
		{data(1, "AB") + run(4, 2, 'C') + "EOF", "tuvwxyz", "tABwCCz"},
		{data(1, "\x00") + run(3, 2, 0) + "EOF", "tuvwxyz", "t\x00v\x00\x00yz"},
	} {
		makes(t, patch(c.p), c.x, c.want)
	}
	if out, e := ips.Apply(patch(run(3, 65535, 0xA5), "EOF"), []byte("xyz")); string(out) != "xyz"+string(bytes.Repeat([]byte{0xA5}, 65535)) || e != api.OK {
		t.Error(len(out), e)
	}
}

// D2: where a record stands behind the output's end, there are noughts between.
func TestNoughtsBetween(t *testing.T) {
	makes(t, patch(data(3, "A"), "EOF"), "xyz", "xyzA")
	makes(t, patch(data(4, "A"), "EOF"), "xyz", "xyz\x00A")
	makes(t, patch(data(6, "AB"), "EOF"), "xyz", "xyz\x00\x00\x00AB")
	makes(t, patch(run(5, 2, 'A'), "EOF"), "xyz", "xyz\x00\x00AA")
	makes(t, patch(data(2, "A"), "EOF"), "", "\x00\x00A")
	makes(t, patch(data(4, "A"), data(7, "B"), "EOF"), "x", "x\x00\x00\x00A\x00\x00B")
	// A later record may stand where noughts came to stand, and one that ends at the output's end needs none.
	makes(t, patch(data(5, "A"), data(2, "BC"), "EOF"), "x", "x\x00BC\x00A")
	makes(t, patch(data(5, "A"), data(4, "BC"), "EOF"), "x", "x\x00\x00\x00BC")
}

// D2: records are carried out in order: where they overlap, the later one is seen.
func TestInOrder(t *testing.T) {
	makes(t, patch(data(0, "AAAA"), data(1, "BB"), "EOF"), "wxyz", "ABBA")
	makes(t, patch(data(1, "BB"), data(0, "AAAA"), "EOF"), "wxyz", "AAAA")
	makes(t, patch(data(0, "ABC"), data(2, "DE"), "EOF"), "", "ABDE")
	makes(t, patch(data(2, "DE"), data(0, "ABC"), "EOF"), "", "ABCE")
	makes(t, patch(run(0, 4, 'A'), data(1, "B"), run(2, 3, 'C'), "EOF"), "xy", "ABCCC")
	makes(t, patch(run(2, 3, 'C'), data(1, "B"), run(0, 4, 'A'), "EOF"), "xy", "AAAAC")
	makes(t, patch(data(1, "A"), data(1, "B"), data(1, "A"), "EOF"), "xyz", "xAz")
}

// D2: behind all records the output is cut, if it is longer.
func TestCut(t *testing.T) {
	for n := range 8 {
		makes(t, patch("EOF", number(n, 3)), "uvwxyz", "uvwxyz"[:min(n, 6)])
		makes(t, patch(data(4, "ABCD"), "EOF", number(n, 3)), "uvwxyz", "uvwxABCD"[:n])
		makes(t, patch(run(8, 1, 'A'), "EOF", number(n, 3)), "uvwxyz", "uvwxyz\x00\x00A"[:n])
	}
	for _, n := range []int{9, 256, 65536, most - 1} {
		makes(t, patch(run(8, 1, 'A'), "EOF", number(n, 3)), "uvwxyz", "uvwxyz\x00\x00A")
		makes(t, patch("EOF", number(n, 3)), "", "")
	}
	makes(t, patch(data(1, "AB"), "EOF\x00\x00\x00"), "xyz", "")
	// The cut comes behind a record that stands further, so that no noughts are left of it.
	makes(t, patch(data(9, "AB"), "EOF\x00\x00\x02"), "xyz", "xy")
	// All three bytes of it are told, the highest first.
	if out, e := ips.Apply(patch("EOF\x01\x02\x03"), make([]byte, 1<<20)); len(out) != 0x010203 || e != api.OK {
		t.Error(len(out), e)
	}
}

// D2: an output has up to 2^24 bytes.
func TestFarthest(t *testing.T) {
	for _, c := range []struct {
		record string
		first  int
		last   byte
	}{
		{data(most-1, "A"), most - 1, 'A'},
		{data(most-3, "ABC"), most - 3, 'C'},
		{run(most-1, 1, 'A'), most - 1, 'A'},
		{run(most-65535, 65535, 'A'), most - 65535, 'A'},
	} {
		out, e := ips.Apply(patch(c.record, "EOF"), []byte("xyz"))
		if len(out) != most || e != api.OK {
			t.Error(c.first, len(out), e)
			continue
		}
		if string(out[:4]) != "xyz\x00" || out[c.first-1] != 0 || out[c.first] != 'A' || out[most-1] != c.last {
			t.Errorf("%d: %q .. %q", c.first, out[:4], out[most-4:])
		}
	}
}

// D2: ErrLarge, if the output would be longer at some record, even if it would be cut.
func TestTooFar(t *testing.T) {
	for _, record := range []string{data(most-1, "AB"), data(most-2, "ABC"), run(most-1, 2, 'A'), run(most-65534, 65535, 'A'), run(most-1, 65535, 'A')} {
		for _, p := range [][]byte{
			patch(record, "EOF"),
			patch(record, "EOF\x00\x00\x00"),
			patch(record, "EOF\xFF\xFF\xFF"),
			patch(data(1, "ab"), record, "EOF"),
			patch(record, data(1, "ab"), "EOF"),
		} {
			tooLarge(t, p, nil)
			tooLarge(t, p, []byte("xyz"))
		}
	}
}

// D2: ErrLarge, if the input has more than 2^24 bytes, even if it would be cut.
func TestLargeInput(t *testing.T) {
	x := bytes.Repeat([]byte{7}, most+1)
	tooLarge(t, patch("EOF"), x)
	tooLarge(t, patch("EOF\x00\x00\x02"), x)
	tooLarge(t, patch(data(1, "A"), "EOF"), x)
	tooLarge(t, patch(data(most-1, "AB"), "EOF"), x)
	out, e := ips.Apply(patch(data(1, "A"), run(most-1, 1, 'B'), "EOF"), x[:most])
	if len(out) != most || e != api.OK || !bytes.Equal(out[:3], []byte{7, 'A', 7}) || !bytes.Equal(out[most-2:], []byte{7, 'B'}) {
		t.Error(len(out), e)
	}
	if out, e := ips.Apply(patch("EOF\x00\x00\x02"), x[:most]); !bytes.Equal(out, []byte{7, 7}) || e != api.OK {
		t.Error(len(out), e)
	}
}

// D2: the errors of Parse come first, whatever else applies.
func TestErrorsOfParseFirst(t *testing.T) {
	far := data(most-1, "AB")
	large := make([]byte, most+1)
	for _, c := range []struct {
		p []byte
		e api.Errno
	}{
		{nil, api.ErrForm},
		{[]byte("PATCX"), api.ErrForm},
		{patch(far), api.ErrShort},
		{patch(far, "EOF\x00"), api.ErrShort},
		{patch(far, "\x00\x00\x01\x00\x00\x00\x00"), api.ErrForm},
		{patch(far, "EOF\x00\x00\x01\x00"), api.ErrForm},
	} {
		fails(t, c.p, c.e)
		if out, e := ips.Apply(c.p, large); len(out) != 0 || e != c.e {
			t.Errorf("%q: %d bytes, %v instead of %v", c.p, len(out), e, c.e)
		}
	}
}

// What follows: records that do not overlap may stand in any order.
func TestAnyOrder(t *testing.T) {
	records := []string{data(0, "AB"), run(2, 3, 'C'), data(7, "D"), run(12, 2, 'E'), data(14, "FGH")}
	for _, c := range []struct{ behind, want string }{
		{"EOF", "ABCCCfgDijklEEFGH"},
		{"EOF\x00\x00\x0D", "ABCCCfgDijklE"},
	} {
		permute(records, func(l []string) {
			makes(t, patch(append(slices.Clone(l), c.behind)...), "abcdefghijkl", c.want)
		})
		permute(records, func(l []string) {
			makes(t, patch(append(slices.Clone(l), c.behind)...), "abcdefghi", c.want[:9]+"\x00\x00\x00"+c.want[12:])
		})
	}
}

// permute calls f with all orders of l.
func permute(l []string, f func([]string)) {
	var place func(n int)
	place = func(n int) {
		if n == len(l) {
			f(l)
			return
		}
		for i := n; i < len(l); i++ {
			l[n], l[i] = l[i], l[n]
			place(n + 1)
			l[n], l[i] = l[i], l[n]
		}
	}
	place(0)
}

// plainParse is what the chapter says, by places in p.
func plainParse(p []byte) (l []ips.Record, cut int, e api.Errno) {
	if !bytes.HasPrefix(p, []byte("PATCH")) {
		return nil, 0, api.ErrForm
	}
	p = p[5:]
	for {
		if len(p) < 3 {
			return nil, 0, api.ErrShort
		}
		if string(p[:3]) == "EOF" {
			break
		}
		if len(p) < 5 {
			return nil, 0, api.ErrShort
		}
		r := ips.Record{At: int(p[0])<<16 | int(p[1])<<8 | int(p[2])}
		n := int(p[3])<<8 | int(p[4])
		p = p[5:]
		if n == 0 {
			if len(p) < 2 {
				return nil, 0, api.ErrShort
			}
			r.Run = int(p[0])<<8 | int(p[1])
			if r.Run == 0 {
				return nil, 0, api.ErrForm
			}
			p, n = p[2:], 1
		}
		if len(p) < n {
			return nil, 0, api.ErrShort
		}
		r.Data = p[:n]
		l, p = append(l, r), p[n:]
	}
	switch p = p[3:]; len(p) {
	case 0:
		return l, uncut, api.OK
	case 1, 2:
		return nil, 0, api.ErrShort
	case 3:
		return l, int(p[0])<<16 | int(p[1])<<8 | int(p[2]), api.OK
	}
	return nil, 0, api.ErrForm
}

// plainApply is what the chapter says, byte by byte, for patches whose records do not reach too far.
func plainApply(l []ips.Record, cut int, x []byte) []byte {
	out := slices.Clone(x)
	for _, r := range l {
		n := max(r.Run, len(r.Data))
		for len(out) < r.At+n {
			out = append(out, 0)
		}
		for i := range n {
			out[r.At+i] = r.Data[min(i, len(r.Data)-1)]
		}
	}
	if cut >= 0 && cut < len(out) {
		out = out[:cut]
	}
	return out
}

// D1, D2: patches of all shapes, whole ones and spoilt ones, answer as the chapter's words do.
func TestAsWritten(t *testing.T) {
	seed := uint32(1)
	next := func(n int) int {
		seed = seed*1664525 + 1013904223
		return int(seed>>8) % n
	}
	pieces := []string{"E", "O", "F", "EOF", "\x00", "\x00\x00", "\x00\x01", "x", "\x00\x00\x02", "PATCH"}
	good := 0
	for range 20000 {
		var parts []string
		for range next(5) {
			if next(2) == 0 {
				parts = append(parts, data(next(20), "abcdefgh"[:1+next(8)]))
			} else {
				parts = append(parts, run(next(20), 1+next(9), byte(next(256))))
			}
		}
		parts = append(parts, "EOF")
		if next(3) == 0 {
			parts = append(parts, number(next(24), 3))
		}
		p := patch(parts...)
		switch at := next(len(p)); next(4) {
		case 0:
			p = p[:at]
		case 1:
			p = slices.Insert(p, at, []byte(pieces[next(len(pieces))])...)
		case 2:
			p = slices.Delete(p, at, min(at+1+next(3), len(p)))
		}
		l, cut, e := plainParse(p)
		got, gotCut, gotE := ips.Parse(p)
		if !sameRecords(got, l) || gotCut != cut || gotE != e {
			t.Fatalf("%q: %v, %d, %v instead of %v, %d, %v", p, got, gotCut, gotE, l, cut, e)
		}
		if slices.ContainsFunc(l, func(r ips.Record) bool { return r.At+max(r.Run, len(r.Data)) > 1<<20 }) {
			continue
		}
		var want []byte
		x := []byte("abcdefghijklmnop")[:next(17)]
		if e == api.OK {
			want = plainApply(l, cut, x)
			good++
		}
		if out, got := ips.Apply(p, x); !bytes.Equal(out, want) || got != e {
			t.Fatalf("%q of %q: %q, %v instead of %q, %v", p, x, out, got, want, e)
		}
	}
	if good < 5000 {
		t.Errorf("only %d patches were whole", good)
	}
}

// R1: what is handed in stays as it was, and what is told stays so though it is written over.
func TestKeepsNothing(t *testing.T) {
	p := patch(data(1, "AB"), run(4, 3, 'C'), "EOF\x00\x00\x06")
	x := []byte("tuvwxyz")
	before, beforeX := slices.Clone(p), slices.Clone(x)
	l, _, _ := ips.Parse(p)
	out, _ := ips.Apply(p, x)
	same, _ := ips.Apply(patch("EOF"), x)
	if !bytes.Equal(p, before) || !bytes.Equal(x, beforeX) {
		t.Errorf("%q, %q", p, x)
	}
	clear(p)
	clear(x)
	if !sameRecords(l, []ips.Record{{At: 1, Data: []byte("AB")}, {At: 4, Run: 3, Data: []byte("C")}}) {
		t.Error(l)
	}
	if string(out) != "tABwCC" || string(same) != "tuvwxyz" {
		t.Errorf("%q, %q", out, same)
	}
}

// R1: what is told is the caller's: written over and appended to, it changes neither what was handed in nor anything else.
func TestSharesNothing(t *testing.T) {
	p := patch(data(1, "AB"), data(3, "CD"), run(5, 2, 'E'), "EOF\x00\x00\x04")
	x := []byte("tuvwxyz")
	before, beforeX := slices.Clone(p), slices.Clone(x)
	l, _, _ := ips.Parse(p)
	l[0].Data[0] = '!'
	l[0].Data = append(l[0].Data, "!!!!"...)
	l[2].Data[0] = '?'
	if string(l[1].Data) != "CD" {
		t.Errorf("%q", l[1].Data)
	}
	l[1] = ips.Record{}
	for _, q := range [][]byte{p, patch("EOF"), patch("EOF\x00\x00\x04")} {
		first, _ := ips.Apply(q, x)
		second, _ := ips.Apply(q, x)
		for i := range first {
			first[i] = '!'
		}
		_ = append(first, "!!!!"...)
		third, _ := ips.Apply(q, x)
		if bytes.Contains(second, []byte("!")) || !bytes.Equal(second, third) {
			t.Errorf("%q, %q", second, third)
		}
	}
	if !bytes.Equal(p, before) || !bytes.Equal(x, beforeX) {
		t.Errorf("%q, %q", p, x)
	}
	parses(t, p, []ips.Record{{At: 1, Data: []byte("AB")}, {At: 3, Data: []byte("CD")}, {At: 5, Run: 2, Data: []byte("E")}}, 4)
}

// R1: a patch applied to itself, and to a row that it lies in, is not spoilt by its own output.
func TestPatchOfItself(t *testing.T) {
	p := patch(data(0, "patch"), run(5, 2, 'z'), "EOF")
	want := "patchzz" + string(p[7:])
	makes(t, p, string(p), want)
	if out, e := ips.Apply(p, p); string(out) != want || e != api.OK {
		t.Errorf("%q, %v", out, e)
	}
	row := append([]byte("abc"), p...)
	if out, e := ips.Apply(row[3:], row); string(out) != "patchzz"+string(row[7:]) || e != api.OK {
		t.Errorf("%q, %v", out, e)
	}
}

// R3, R4: the same calls have the same answers, whatever was called between them, failing calls too.
func TestSameAgain(t *testing.T) {
	tell := func() string {
		l, cut, e := ips.Parse(patch(data(1, "AB"), run(2, 3, 'C'), "EOF\x00\x00\x07"))
		out, e2 := ips.Apply(patch(data(1, "AB"), run(6, 3, 'C'), "EOF"), []byte("xyz"))
		return fmt.Sprint(l, cut, e, out, e2)
	}
	first := tell()
	ips.Parse(nil)
	ips.Parse(patch("\x00"))
	ips.Apply(patch(data(most-1, "AB"), "EOF"), []byte("abc"))
	ips.Apply(patch(data(9, "qqq"), "EOF"), []byte("abc"))
	if again := tell(); again != first {
		t.Errorf("%s, then %s", first, again)
	}
}
