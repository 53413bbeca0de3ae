package ups_test

import (
	"hash/crc32"
	"testing"

	"picklock/api"
	"picklock/ups"
)

const (
	// most is how many bytes a patch and a file have at most.
	most = 1 << 24
	// greatest is the greatest number that has a writing.
	greatest = 1 << 32
	// ends is how many bytes the three sums at a patch's end have.
	ends = 12
)

// number tells the bytes of u as the chapter of numbers has them, step by step.
func number(u uint64) string {
	var b []byte
	for ; u >= 128; u = u>>7 - 1 {
		b = append(b, byte(u&127))
	}
	return string(append(b, byte(u)+128))
}

// sum tells the four bytes of s's sum, the lowest first; the sum is the library's, so that crc is no witness for itself.
func sum(s string) string {
	u := crc32.ChecksumIEEE([]byte(s))
	return string([]byte{byte(u), byte(u >> 8), byte(u >> 16), byte(u >> 24)})
}

// signed lays the last sum behind what is ahead of it.
func signed(s string) []byte { return []byte(s + sum(s)) }

// raw is a patch of whatever stands between its beginning and the sums of a and b.
func raw(body, a, b string) []byte { return signed("UPS1" + body + sum(a) + sum(b)) }

// patch is one from a to b by these hunks.
func patch(a, b string, hunks ...string) []byte {
	body := number(uint64(len(a))) + number(uint64(len(b)))
	for _, h := range hunks {
		body += h
	}
	return raw(body, a, b)
}

// hunk is places that are skipped, and bytes that are xored in.
func hunk(skipped uint64, xored string) string { return number(skipped) + xored + "\x00" }

// numbers is a row of numbers that looks like chance, but is always the same.
type numbers uint32

// below tells a number below n.
func (x *numbers) below(n int) int {
	*x = *x*1664525 + 1013904223
	return int(uint64(*x) * uint64(n) >> 32)
}

// bytes tells n bytes of so many kinds, 0 among them.
func (x *numbers) bytes(n, kinds int) []byte {
	b := make([]byte, n)
	for i := range b {
		b[i] = byte(x.below(kinds))
	}
	return b
}

// nulls is a text of n noughts.
func nulls(n int) string { return string(make([]byte, n)) }

// makes is for a patch that makes want of x.
func makes(t *testing.T, p []byte, x, want string) {
	t.Helper()
	if out, e := ups.Apply(p, []byte(x)); string(out) != want || e != api.OK {
		t.Errorf("%.60q of %.30q: %.30q (%d bytes), %v instead of %.30q (%d bytes)", p, x, out, len(out), e, want, len(want))
	}
}

// fails is for a patch and an x of which e is told and nothing else.
func fails(t *testing.T, p []byte, x string, e api.Errno) {
	t.Helper()
	if out, got := ups.Apply(p, []byte(x)); len(out) != 0 || got != e {
		t.Errorf("%.60q of %.30q: %d bytes, %v instead of %v", p, x, len(out), got, e)
	}
}

// bothWays is for a patch that leads from a to b, and from b to a.
func bothWays(t *testing.T, p []byte, a, b string) {
	t.Helper()
	makes(t, p, a, b)
	makes(t, p, b, a)
}
