package bps_test

import (
	"bytes"
	"fmt"
	"hash/crc32"
	"reflect"
	"slices"
	"strings"
	"testing"

	"picklock/api"
	"picklock/bps"
	"picklock/crc"
)

const (
	// most is how many bytes a patch and a file have at most.
	most = 1 << 24
	// greatest is the greatest number that has a writing; it tells of the furthest moves.
	greatest = 1 << 32
	furthest = greatest / 2
	// ends is how many bytes the three sums at a patch's end have.
	ends = 12
)

// number tells the bytes of u as the chapter of numbers has them, step by step.
func number(u uint64) string {
	var b []byte
	for ; u >= 128; u = u>>7 - 1 {
		b = append(b, byte(u&127))
	}
	return string(append(b, byte(u)+128))
}

// turned tells the bytes of a number that may be below 0.
func turned(n int64) string {
	if n < 0 {
		return number(uint64(-2*n) + 1)
	}
	return number(uint64(2 * n))
}

// begin is what an action of some kind and of n bytes begins with.
func begin(kind, n int) string { return number(uint64(n-1)<<2 + uint64(kind)) }

func fromSource(n int) string { return begin(0, n) }

func fromPatch(s string) string { return begin(1, len(s)) + s }

func copySource(n int, move int64) string { return begin(2, n) + turned(move) }

func copyTarget(n int, move int64) string { return begin(3, n) + turned(move) }

// sumOf is the library's, so that crc is no witness for itself.
func sumOf(s string) uint32 { return crc32.ChecksumIEEE([]byte(s)) }

// sum tells the four bytes of s's sum, the lowest first.
func sum(s string) string {
	u := sumOf(s)
	return string([]byte{byte(u), byte(u >> 8), byte(u >> 16), byte(u >> 24)})
}

// signed lays the last sum behind what is ahead of it.
func signed(s string) []byte { return []byte(s + sum(s)) }

// raw is a patch of whatever stands between its beginning and the sums of a and b.
func raw(body, a, b string) []byte { return signed("BPS1" + body + sum(a) + sum(b)) }

// noted is a patch from a to b by these actions, with a meta.
func noted(a, b, meta string, actions ...string) []byte {
	numbers := number(uint64(len(a))) + number(uint64(len(b))) + number(uint64(len(meta)))
	return raw(numbers+meta+strings.Join(actions, ""), a, b)
}

// patch is one from a to b by these actions.
func patch(a, b string, actions ...string) []byte { return noted(a, b, "", actions...) }

// forged is s with four bytes behind it, by which its sum is that of want.
func forged(s, want string) string {
	row := crc.Forge(crc.Sum([]byte(s)), crc.Sum([]byte(want)))
	return s + string(row[:])
}

// highSums are two texts of five bytes whose sums' bytes all have their highest bit set: a number that reached into them would end there.
func highSums() (string, string) {
	var out []string
	for _, s := range []string{"a", "b"} {
		row := crc.Forge(crc.Sum([]byte(s)), 0x83828180)
		out = append(out, s+string(row[:]))
	}
	if sum(out[0]) != "\x80\x81\x82\x83" || sum(out[1]) != "\x80\x81\x82\x83" {
		panic("no such sums")
	}
	return out[0], out[1]
}

// numbers is a row of numbers that looks like chance, but is always the same.
type numbers uint32

// below tells a number below n.
func (x *numbers) below(n int) int {
	*x = *x*1664525 + 1013904223
	return int(uint64(*x) * uint64(n) >> 32)
}

// bytes tells n bytes of so many kinds, 0 among them.
func (x *numbers) bytes(n, kinds int) []byte {
	b := make([]byte, n)
	for i := range b {
		b[i] = byte(x.below(kinds))
	}
	return b
}

// nulls is a text of n noughts.
func nulls(n int) string { return string(make([]byte, n)) }

// sameAction is for actions that are the same in all parts; no bytes are no bytes, be they nil or empty.
func sameAction(a, b bps.Action) bool {
	return a.Kind == b.Kind && a.Len == b.Len && a.Move == b.Move && bytes.Equal(a.Data, b.Data)
}

func samePatch(a, b bps.Patch) bool {
	return a.In == b.In && a.Out == b.Out && a.InSum == b.InSum && a.OutSum == b.OutSum && bytes.Equal(a.Meta, b.Meta) && slices.EqualFunc(a.L, b.L, sameAction)
}

// shown tells of a patch what fits a line, however large it is.
func shown(p bps.Patch) string {
	s := fmt.Sprintf("%d to %d bytes, %08X to %08X, %d bytes of meta (%.20q), %d actions:", p.In, p.Out, p.InSum, p.OutSum, len(p.Meta), p.Meta, len(p.L))
	for _, a := range p.L[:min(len(p.L), 10)] {
		s += fmt.Sprintf(" {%d %d %d %.20q}", a.Kind, a.Len, a.Move, a.Data)
	}
	return s
}

// isParsed is for bytes that are the patch that is wanted.
func isParsed(t *testing.T, p []byte, want bps.Patch) {
	t.Helper()
	if got, e := bps.Parse(p); e != api.OK || !samePatch(got, want) {
		t.Errorf("%.60q: %s, %v instead of %s", p, shown(got), e, shown(want))
	}
}

// isNone is for bytes of which Parse, and Apply to whatever, tell e and nothing else.
func isNone(t *testing.T, p []byte, e api.Errno) {
	t.Helper()
	if got, told := bps.Parse(p); told != e || !reflect.DeepEqual(got, bps.Patch{}) {
		t.Errorf("%.60q: %s, %v instead of %v", p, shown(got), told, e)
	}
	for _, x := range []string{"", "ab", "abc"} {
		fails(t, p, x, e)
	}
}

// makes is for a patch that makes want of x.
func makes(t *testing.T, p []byte, x, want string) {
	t.Helper()
	if out, e := bps.Apply(p, []byte(x)); string(out) != want || e != api.OK {
		t.Errorf("%.60q of %.30q: %.30q (%d bytes), %v instead of %.30q (%d bytes)", p, x, out, len(out), e, want, len(want))
	}
}

// fails is for a patch and an x of which e is told and nothing else.
func fails(t *testing.T, p []byte, x string, e api.Errno) {
	t.Helper()
	if out, got := bps.Apply(p, []byte(x)); len(out) != 0 || got != e {
		t.Errorf("%.60q of %.30q: %d bytes, %v instead of %v", p, x, len(out), got, e)
	}
}
