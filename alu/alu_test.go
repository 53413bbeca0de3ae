package alu_test

import "testing"

// one tells 1, if it is so, or else 0.
func one(so bool) int {
	if so {
		return 1
	}
	return 0
}

// signed tells v as a number from -128 to 127.
func signed(v byte) int {
	if v >= 128 {
		return int(v) - 256
	}
	return int(v)
}

// round tells n modulo 256.
func round(n int) byte {
	return byte((n + 512) % 256)
}

// isSigned tells whether n is from -128 to 127.
func isSigned(n int) bool {
	return -128 <= n && n <= 127
}

// everyPair calls do with each a and v.
func everyPair(do func(a, v byte)) {
	for a := range 256 {
		for v := range 256 {
			do(byte(a), byte(v))
		}
	}
}

// every calls do with each a and v, with carry and without.
func every(do func(a, v byte, carry bool)) {
	everyPair(func(a, v byte) {
		do(a, v, false)
		do(a, v, true)
	})
}

// result is what a sum or a difference tells.
type result struct {
	r    byte
	c, o bool
}

// got gathers the three results of one call.
func got(r byte, c, o bool) result {
	return result{r, c, o}
}

// isResult fails if got isn't want.
func isResult(t *testing.T, what string, a, v byte, carry bool, got, want result) {
	t.Helper()
	if got != want {
		t.Errorf("%s of %d and %d, carry %t: %d %t %t, want %d %t %t", what, a, v, carry, got.r, got.c, got.o, want.r, want.c, want.o)
	}
}
