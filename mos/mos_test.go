package mos_test

import (
	"slices"
	"strconv"
	"strings"
	"testing"

	"picklock/mos"
)

// access is one byte that is read at an address, or written to it.
type access struct {
	written bool
	a       uint16
	v       byte
}

// noting is a bus that notes all that is read and written. Where nothing was set, it has the byte that under tells, or else 0.
type noting struct {
	m     map[uint16]byte
	under func(a uint16) byte
	seen  []access
}

func (n *noting) at(a uint16) byte {
	v, set := n.m[a]
	if !set && n.under != nil {
		return n.under(a)
	}
	return v
}

func (n *noting) Read(a uint16) byte {
	n.seen = append(n.seen, access{false, a, n.at(a)})
	return n.at(a)
}

func (n *noting) Write(a uint16, v byte) {
	n.seen = append(n.seen, access{true, a, v})
	n.m[a] = v
}

// number tells a number to base sixteen.
func number(t *testing.T, text string) uint16 {
	t.Helper()
	n, err := strconv.ParseUint(text, 16, 16)
	if err != nil {
		t.Fatal(err)
	}
	return uint16(n)
}

// memory makes a bus of a text as "200: A9 80 1234: 7": bytes, one behind the other, each time from an address on.
func memory(t *testing.T, text string) *noting {
	t.Helper()
	n := &noting{m: map[uint16]byte{}}
	var a uint16
	for _, word := range strings.Fields(text) {
		if first, isPlace := strings.CutSuffix(word, ":"); isPlace {
			a = number(t, first)
			continue
		}
		n.m[a] = byte(number(t, word))
		a++
	}
	return n
}

// hex tells a number's digits to base sixteen.
func hex(n int) string { return strings.ToUpper(strconv.FormatInt(int64(n), 16)) }

// told tells accesses as a text: "200" is read, "1FD=80" is written.
func told(seen []access) string {
	var words []string
	for _, x := range seen {
		word := hex(int(x.a))
		if x.written {
			word += "=" + hex(int(x.v))
		}
		words = append(words, word)
	}
	return strings.Join(words, " ")
}

// one is what one call is asked: the memory and the CPU ahead of it; the CPU behind it, how many cycles it takes, and what is read and written.
type one struct {
	memory string
	before mos.CPU
	after  mos.CPU
	cycles int
	seen   string
}

// check does a call, and fails if it isn't as the case says.
func (x one) check(t *testing.T, call func(c *mos.CPU, b mos.Bus) int) {
	t.Helper()
	bus, c := memory(t, x.memory), x.before
	cycles := call(&c, bus)
	if c != x.after || cycles != x.cycles || told(bus.seen) != x.seen {
		t.Errorf("%s, %+v:\n%+v, %d cycles, %s, want\n%+v, %d cycles, %s", x.memory, x.before, c, cycles, told(bus.seen), x.after, x.cycles, x.seen)
	}
}

func step(c *mos.CPU, b mos.Bus) int { return c.Step(b) }

// steps fails if one of the cases isn't what a step does.
func steps(t *testing.T, cases []one) {
	t.Helper()
	for _, x := range cases {
		x.check(t, step)
	}
}

// result is what is looked at where nothing but an instruction's result matters: the CPU, and the byte at 1234.
type result struct {
	c mos.CPU
	m byte
}

// stepped does an instruction at 200, with m at 1234, and tells what comes of it, PC left out.
func stepped(code string, c mos.CPU, m byte) result {
	bus := &noting{m: map[uint16]byte{0x1234: m}}
	for i, word := range strings.Fields(code) {
		v, _ := strconv.ParseUint(word, 16, 8)
		bus.m[0x200+uint16(i)] = byte(v)
	}
	c.PC = 0x200
	c.Step(bus)
	c.PC = 0
	return result{c, bus.at(0x1234)}
}

// chance tells n bytes that hang on the seed alone.
func chance(seed, n int) []byte {
	out := make([]byte, n)
	x := uint64(seed)*2654435761 + 88172645463325252
	for i := range out {
		x ^= x << 13
		x ^= x >> 7
		x ^= x << 17
		out[i] = byte(x >> 24)
	}
	return out
}

// chanceCPU tells a CPU that hangs on the seed alone, is not halted, and has neither B nor U.
func chanceCPU(seed int) mos.CPU {
	b := chance(seed, 7)
	return mos.CPU{A: b[0], X: b[1], Y: b[2], S: b[3], P: b[4] &^ 48, PC: uint16(b[5])<<8 | uint16(b[6])}
}

// isSame fails if got isn't want.
func isSame[T comparable](t *testing.T, what string, got, want T) {
	t.Helper()
	if got != want {
		t.Errorf("%s: %v, want %v", what, got, want)
	}
}

// isList fails if got hasn't want's items.
func isList[T comparable](t *testing.T, what string, got, want []T) {
	t.Helper()
	if !slices.Equal(got, want) {
		t.Errorf("%s: %v, want %v", what, got, want)
	}
}
