package bpsmake_test

import (
	"bytes"
	"hash/crc32"
	"strings"
	"testing"

	"picklock/api"
	"picklock/bps"
	"picklock/bpsmake"
	"picklock/varnum"
)

const (
	// most is how many bytes there are at most, mostMeta how many of meta.
	most     = 1 << 24
	mostMeta = 1 << 20
	// long is from how many bytes on H1 speaks of short patches.
	long = 64
)

// numbers is a row of numbers that looks like chance, but is always the same.
type numbers uint64

// below tells a number below n.
func (x *numbers) below(n int) int {
	*x = *x*6364136223846793005 + 1442695040888963407
	return int(uint64(*x>>33) * uint64(n) >> 31)
}

// chance are n bytes that look like chance, from the given one on and of so many kinds.
func chance(seed, n, from, kinds int) []byte {
	x := numbers(seed)
	b := make([]byte, n)
	for i := range b {
		b[i] = byte(from + x.below(kinds))
	}
	return b
}

func times(n int, c byte) []byte { return bytes.Repeat([]byte{c}, n) }

func join(parts ...[]byte) []byte { return bytes.Join(parts, nil) }

// single are n bytes of which no four that follow each other stand at two places: 32 bits of this register that follow each other never come twice.
func single(n int) []byte {
	register := uint32(1)
	b := make([]byte, n)
	for i := range b {
		for range 8 {
			out := register & 1
			b[i] = b[i]<<1 | byte(out)
			register = register>>1 ^ -out&0xEDB88320
		}
	}
	return b
}

// rows are all rows of four of so many kinds of bytes, laid over each other as far as they go: no four bytes stand at two places, but many of three do.
func rows(kinds int) []byte {
	b := make([]byte, 3)
	seen := map[string]bool{}
	for more := true; more; {
		more = false
		for c := kinds - 1; c >= 0 && !more; c-- {
			if row := string(append(bytes.Clone(b[len(b)-3:]), byte(c))); !seen[row] {
				seen[row] = true
				b = append(b, byte(c))
				more = true
			}
		}
	}
	return b
}

// isSingle tells whether no four bytes that follow each other stand at two places.
func isSingle(b []byte) bool {
	seen := map[string]bool{}
	for i := range max(len(b)-3, 0) {
		if seen[string(b[i:i+4])] {
			return false
		}
		seen[string(b[i:i+4])] = true
	}
	return true
}

// created is for those of which a patch can be made.
func created(t *testing.T, a, b, meta []byte) []byte {
	t.Helper()
	p, e := bpsmake.Create(a, b, meta)
	if e != api.OK {
		t.Errorf("%d and %d bytes, and %d: %v", len(a), len(b), len(meta), e)
	}
	return p
}

// checkHead checks what the patch tells of a, b and meta.
func checkHead(t *testing.T, q bps.Patch, a, b, meta []byte) {
	t.Helper()
	if q.In != len(a) || q.InSum != crc32.ChecksumIEEE(a) {
		t.Errorf("%d and %d bytes: an input of %d, %08X", len(a), len(b), q.In, q.InSum)
	}
	if q.Out != len(b) || q.OutSum != crc32.ChecksumIEEE(b) {
		t.Errorf("%d and %d bytes: an output of %d, %08X", len(a), len(b), q.Out, q.OutSum)
	}
	if !bytes.Equal(q.Meta, meta) {
		t.Errorf("%d and %d bytes: a meta of %d bytes instead of %d", len(a), len(b), len(q.Meta), len(meta))
	}
}

// checkActions checks how many there are, and which stand next to each other.
func checkActions(t *testing.T, l []bps.Action, a, b []byte) {
	t.Helper()
	if len(l) > len(b) {
		t.Errorf("%d and %d bytes: %d actions", len(a), len(b), len(l))
	}
	for i := 1; i < len(l); i++ {
		if l[i].Kind == l[i-1].Kind && (l[i].Kind == bps.FromSource || l[i].Kind == bps.FromPatch) {
			t.Errorf("%d and %d bytes: two actions of kind %d next to each other, at %d", len(a), len(b), l[i].Kind, i)
		}
	}
}

// holds checks all that H1 promises of each patch, and tells it, and its actions.
func holds(t *testing.T, a, b, meta []byte) ([]byte, []bps.Action) {
	t.Helper()
	p := created(t, a, b, meta)
	if out, e := bps.Apply(p, a); !bytes.Equal(out, b) || e != api.OK {
		t.Errorf("%d and %d bytes: Apply makes %d others, %v", len(a), len(b), len(out), e)
	}
	q, e := bps.Parse(p)
	if e != api.OK {
		t.Errorf("%d and %d bytes: %v", len(a), len(b), e)
	}
	checkHead(t, q, a, b, meta)
	checkActions(t, q.L, a, b)
	if n := 60 + len(meta) + 2*len(b); len(p) > n {
		t.Errorf("%d and %d bytes: a patch of %d, more than %d", len(a), len(b), len(p), n)
	}
	noLonger(t, p, a, b, meta)
	return p, q.L
}

// noLonger checks that the patch has no more bytes than if it told all of b by one action: else there could be none of a b that just fits.
func noLonger(t *testing.T, p, a, b, meta []byte) {
	t.Helper()
	n := 4 + 12 + len(meta) + len(b)
	for _, u := range []int{len(a), len(b), len(meta), 4*len(b) - 3} {
		n += len(varnum.Put(uint64(max(u, 0))))
	}
	if len(p) > n {
		t.Errorf("%d and %d bytes: a patch of %d, more than %d", len(a), len(b), len(p), n)
	}
}

// atMost is for those whose patch has not more than n bytes beside meta.
func atMost(t *testing.T, n int, a, b, meta []byte) {
	t.Helper()
	if p, _ := holds(t, a, b, meta); len(p) > n+len(meta) {
		t.Errorf("%d and %d bytes, and %d: a patch of %d, more than %d beside meta", len(a), len(b), len(meta), len(p), n)
	}
}

// notTwice checks that what is long and stands in a is not told once more.
func notTwice(t *testing.T, l []bps.Action, a []byte) {
	t.Helper()
	for _, x := range l {
		for i := 0; i+long <= len(x.Data); i++ {
			if bytes.Contains(a, x.Data[i:i+long]) {
				t.Errorf("%d bytes: %q is told once more", len(a), x.Data[i:i+long])
			}
		}
	}
}

// metas are of no bytes, of one and of many.
func metas() [][]byte {
	return [][]byte{nil, {}, {0}, []byte("me"), []byte("BPS1"), chance(5, 127, 0, 256), chance(6, 128, 0, 256), chance(7, 70000, 0, 256)}
}

// H1: ordinary rows, each with each meta: Apply makes b of a, and Parse tells sizes, sums and meta.
func TestOrdinary(t *testing.T) {
	for _, x := range []struct{ a, b string }{
		{"abc", "aXc"}, {"abc", "Xbc"}, {"abc", "abX"}, {"abc", "XYZ"}, {"abc", "XbZ"}, {"a", "b"}, {"a", "bcdefghijk"},
		{"abcdefgh", "defgh"}, {"abcdefgh", "efghabcd"}, {"abcdefgh", "abcdXabcdefgh"}, {"abcdefgh", "XabcdefghYabcdefgh"},
		{"one row of bytes", "another row of bytes, and one row of bytes more"},
		{"aaaaaaaaaaaaaaaa", "aaaabbbbbbbbaaaa"},
		{"", "aaaaaaaaaaaaaaaabcabcabcabcabcabc"},
		{"\x00\xFF\x80", "\x80\xFF\x00\x00\xFF\x80\x00\xFF\x80\x00\xFF\x80"},
	} {
		for _, meta := range metas() {
			holds(t, []byte(x.a), []byte(x.b), meta)
			holds(t, []byte(x.b), []byte(x.a), meta)
		}
	}
}

// H1: the chapter's example.
func TestExample(t *testing.T) {
	a := []byte("abcabcabcabc")
	_, l := holds(t, a, bytes.Clone(a), nil)
	if len(l) != 1 || l[0].Kind != bps.FromSource || l[0].Len != 12 {
		t.Error(l)
	}
}

// H1: one of both is empty, or both are; an empty b has no actions.
func TestEmpty(t *testing.T) {
	for _, meta := range metas() {
		for _, empty := range [][]byte{nil, {}} {
			for _, other := range [][]byte{nil, {}, {0}, []byte("a"), []byte("abc"), []byte("abcd"), []byte("abcabcabc"), times(300, 0), chance(1, 5000, 0, 256)} {
				holds(t, empty, other, meta)
				if _, l := holds(t, other, empty, meta); len(l) != 0 {
					t.Errorf("%d bytes and none: %v", len(other), l)
				}
			}
		}
	}
	if p, _ := holds(t, nil, nil, nil); string(p[:15]) != "BPS1\x80\x80\x80\x00\x00\x00\x00\x00\x00\x00\x00" {
		t.Errorf("%q", p)
	}
}

// H1: one is the beginning of the other.
func TestBeginning(t *testing.T) {
	for _, whole := range [][]byte{chance(1, 700, 0, 256), chance(2, 700, 0, 2), single(700), times(700, 'x'), bytes.Repeat([]byte("abc"), 200)} {
		for _, n := range []int{0, 1, 2, 3, 4, 5, 63, 64, 65, 127, 128, 300, len(whole) - 1} {
			if _, l := holds(t, whole, whole[:n], nil); len(l) > 1 {
				t.Errorf("the first %d bytes take %d actions", n, len(l))
			}
			_, l := holds(t, whole[:n], whole, []byte("m"))
			notTwice(t, l, whole[:n])
		}
	}
}

// H1: both have nothing in common.
func TestNothingInCommon(t *testing.T) {
	for _, n := range []int{1, 2, 3, 4, 31, 32, 33, 64, 1000, 4128, 4129, 70000} {
		for _, kinds := range []int{1, 2, 100} {
			holds(t, chance(n, n, 0, kinds), chance(n+1, n, 128, kinds), nil)
			holds(t, chance(n, 100, 0, kinds), chance(n+1, n, 128, kinds), []byte("meta"))
			holds(t, chance(n, n, 0, kinds), chance(n+1, 100, 128, kinds), nil)
		}
		holds(t, chance(n, n, 0, 128), single(n), nil)
	}
}

// H1: not more than 40 bytes beside meta, if both are the same.
func TestSame(t *testing.T) {
	for _, meta := range metas() {
		for n := range 200 {
			atMost(t, 40, chance(n, n, 0, 256), chance(n, n, 0, 256), meta)
			atMost(t, 40, chance(n, n, 0, 2), chance(n, n, 0, 2), meta)
			atMost(t, 40, times(n, 7), times(n, 7), meta)
			atMost(t, 40, bytes.Repeat([]byte("abcd"), n), bytes.Repeat([]byte("abcd"), n), meta)
		}
		atMost(t, 40, chance(1, 300000, 0, 256), chance(1, 300000, 0, 256), meta)
	}
	for _, n := range []int{1<<21 + 1, most - 1, most} {
		a := chance(n, n, 0, 256)
		atMost(t, 40, a, a, nil)
		atMost(t, 40, a, bytes.Clone(a), times(mostMeta, 'm'))
		atMost(t, 40, times(n, 0), times(n, 0), nil)
	}
}

// beside are inputs that have a byte not at all, once, or many times in some places, or nothing else.
func beside(c byte) [][]byte {
	other := chance(1, 5000, int(c)+1, 200)
	all := [][]byte{nil, {c}, other, chance(2, 5000, int(c), 2), chance(3, 5000, int(c), 3), single(5000)}
	for _, n := range []int{1, 2, 3, 4, 5, 8, 32, 33, 57, 59, 60, 61, 62, 63, 64, 65, 66, 70, 100, 5000} {
		all = append(all, times(n, c), join(other[:1], times(n, c)), join(times(n, c), other), join(other, times(n, c)), join(other[:50], times(n, c), other[50:]))
		// Many rows, each longer than the one ahead, or shorter.
		var longer, shorter []byte
		for i := range min(n, 100) {
			longer = join(longer, times(i, c), other[i:i+1])
			shorter = join(times(i, c), other[i:i+1], shorter)
		}
		all = append(all, longer, shorter, join(times(3, c), longer), join(times(9, c), other[:1], shorter))
	}
	return all
}

// H1: not more than 60 bytes beside meta, if b is at least 64 times the same byte, whatever a is.
func TestOneByte(t *testing.T) {
	for _, a := range beside('x') {
		for _, n := range []int{64, 65, 66, 67, 68, 69, 70, 71, 72, 100, 128, 129, 1000, 4999, 5000, 5001, 20000} {
			atMost(t, 60, a, times(n, 'x'), nil)
		}
	}
	for _, meta := range metas() {
		for c := range 256 {
			atMost(t, 60, single(1000), times(64+c, byte(c)), meta)
		}
	}
	for _, n := range []int{1 << 20, most - 1, most} {
		atMost(t, 60, nil, times(n, 0), nil)
		atMost(t, 60, chance(1, 1<<20, 0, 2), times(n, 0), times(mostMeta, 'm'))
		atMost(t, 60, join([]byte("abc"), times(most-3, 'x')), times(n, 'x'), nil)
	}
}

// H1: not more than 60 bytes beside meta, if b is at least 64 bytes of a, at whatever place, and no four bytes stand at two places of a.
func TestPiece(t *testing.T) {
	line := make([]byte, 200)
	for i := range line {
		line[i] = byte(i)
	}
	for _, a := range [][]byte{line, single(64), single(65), single(600), rows(3), rows(4), rows(5), join(single(300), line)} {
		if !isSingle(a) || len(a) < long {
			t.Fatalf("%d bytes", len(a))
		}
		for from := 0; from+long <= len(a); from++ {
			for _, n := range []int{64, 65, 66, 67, 68, 100, 127, 128, 129, 500, len(a) - from} {
				if from+n <= len(a) && n >= long {
					atMost(t, 60, a, a[from:from+n], nil)
				}
			}
		}
		for _, meta := range metas() {
			atMost(t, 60, a, a[:long], meta)
			atMost(t, 60, a, a[len(a)-long:], meta)
			atMost(t, 60, a, a[(len(a)-long)/2:][:long], meta)
			atMost(t, 60, a, a, meta)
		}
	}
}

// H1: the same of a long a.
func TestPieceOfLong(t *testing.T) {
	if !isSingle(single(1 << 20)) {
		t.Fatal("four bytes stand at two places")
	}
	a := single(most)
	for _, x := range []struct{ from, n int }{{0, 64}, {most - 64, 64}, {most / 3, 1 << 16}} {
		atMost(t, 60, a, a[x.from:x.from+x.n], nil)
	}
	atMost(t, 60, a, a[1:], times(mostMeta, 'm'))
}

// H1: not more than 60 bytes, those of meta, and two for each byte of b, also for bytes that are hard to tell.
func TestHard(t *testing.T) {
	for _, n := range []int{1, 2, 3, 5, 10, 33, 100, 1000, 30000} {
		a := chance(1, n, 0, 256)
		for apart := 1; apart <= 10; apart++ {
			// Each of so many bytes differs, or each but one of so many.
			some, others := bytes.Clone(a), chance(2, n, 0, 256)
			for i := 0; i < n; i += apart {
				some[i] ^= 1
				others[i] = a[i]
			}
			for _, meta := range [][]byte{nil, []byte("meta")} {
				holds(t, a, some, meta)
				holds(t, a, others, meta)
				holds(t, a, join([]byte("X"), some), meta)
				holds(t, a, join(others, a, some), meta)
			}
		}
		// Few bytes of a at a time, from far apart, so that a move takes more bytes than they are.
		x := numbers(n)
		for few := 1; few <= 9; few++ {
			far, apart := []byte{}, []byte{}
			for range min(n, 2000) {
				from := x.below(n)
				piece := a[from:min(from+few, n)]
				far = append(far, piece...)
				apart = append(append(apart, piece...), byte(x.below(256)))
			}
			holds(t, a, far, nil)
			holds(t, a, apart, nil)
			holds(t, nil, join(a, apart), nil)
		}
	}
}

// H1: rows of few kinds of bytes, which look like chance, whole or in pieces of each other.
func TestMany(t *testing.T) {
	x := numbers(1)
	for range 20000 {
		kinds := 1 + x.below(5)
		a := chance(x.below(1<<20), x.below(90), 0, kinds)
		var b []byte
		for range x.below(6) {
			from := x.below(len(a) + 1)
			piece := a[from : from+x.below(len(a)-from+1)]
			b = append(append(b, piece...), chance(x.below(1<<20), x.below(9), 0, kinds)...)
		}
		_, l := holds(t, a, b, a[:x.below(len(a)+1)])
		notTwice(t, l, a)
		holds(t, b, a, nil)
	}
}

// H1: parts of a in another order, some of them more than once; none of them is told once more.
func TestParts(t *testing.T) {
	x := numbers(2)
	for _, a := range [][]byte{single(4000), chance(1, 4000, 0, 256), chance(2, 4000, 0, 16), chance(3, 4000, 0, 2), []byte(strings.Repeat("a line of text, ", 250))} {
		for n := 1; n <= 20; n++ {
			var b []byte
			for range n {
				from := x.below(len(a) - long)
				b = append(b, a[from:from+long+x.below(len(a)-from-long+1)]...)
			}
			p, l := holds(t, a, b, []byte("meta"))
			notTwice(t, l, a)
			if len(p) > 60+4+20*n {
				t.Errorf("%d parts of %d bytes: %d bytes", n, len(b), len(p))
			}
			// With some bytes between.
			p, l = holds(t, a, bytes.Join([][]byte{a[2000:], b, a[1000:3000], a}, []byte("some others")), nil)
			notTwice(t, l, a)
			if len(p) > 60+20*n+100 {
				t.Errorf("%d parts of %d bytes with others between: %d bytes", n, len(b), len(p))
			}
		}
	}
}

// H1: bytes that were put in, taken out or changed leave the rest where it can be told from.
func TestChanged(t *testing.T) {
	a := chance(1, 1<<20, 0, 256)
	for i, b := range [][]byte{
		join([]byte("X"), a), join(a, []byte("X")), a[1:], join(a[:5000], a[5001:]), join(a[:5000], []byte("some bytes"), a[5000:]),
		join(a[:70000], []byte{a[70000] ^ 1}, a[70001:]), join(a[500000:], a[:500000]), join(a, a), join(a[:600000], a[300000:]),
	} {
		if p, _ := holds(t, a, b, nil); len(p) > 100 {
			t.Errorf("%d: %d bytes", i, len(p))
		}
	}
	// What comes again in b is no longer than what a tells.
	if p, _ := holds(t, nil, join(a[:3000], a[:3000], a[:3000]), nil); len(p) > 3100 {
		t.Errorf("%d bytes", len(p))
	}
}
