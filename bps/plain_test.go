package bps_test

import (
	"testing"

	"picklock/api"
	"picklock/bps"
)

// plainTake tells a number, what stands behind it, and Take's error, of what the chapter of numbers says.
func plainTake(s string) (uint64, string, api.Errno) {
	said, weight := uint64(0), uint64(1)
	for i := range len(s) {
		said += uint64(s[i]&127) * weight
		if said > greatest {
			return 0, s, api.ErrSize
		}
		if s[i] >= 128 {
			return said, s[i+1:], api.OK
		}
		weight *= 128
		said += weight
	}
	return 0, s, api.ErrShort
}

// plainActions goes through actions, and tells them, or the first error.
func plainActions(s string, size int) ([]bps.Action, api.Errno) {
	var l []bps.Action
	together := 0
	for len(s) > 0 {
		u, rest, e := plainTake(s)
		if e != api.OK {
			return nil, e
		}
		a := bps.Action{Kind: int(u & 3), Len: int(u>>2) + 1}
		together += a.Len
		if together > size {
			return nil, api.ErrSize
		}
		if a.Kind == 1 {
			if len(rest) < a.Len {
				return nil, api.ErrShort
			}
			a.Data, rest = []byte(rest[:a.Len]), rest[a.Len:]
		}
		if a.Kind > 1 {
			u, rest, e = plainTake(rest)
			if e != api.OK {
				return nil, e
			}
			a.Move = int64(u >> 1)
			if u&1 == 1 {
				a.Move = -a.Move
			}
		}
		l = append(l, a)
		s = rest
	}
	if together < size {
		return nil, api.ErrSize
	}
	return l, api.OK
}

// plainParse is what G1 says, sentence by sentence, of patches that are not too large.
func plainParse(p string) (bps.Patch, api.Errno) {
	var none bps.Patch
	n := len(p)
	if n < 19 || p[:4] != "BPS1" {
		return none, api.ErrForm
	}
	if p[n-4:] != sum(p[:n-4]) {
		return none, api.ErrSum
	}
	four := func(s string) uint32 {
		return uint32(s[0]) + uint32(s[1])<<8 + uint32(s[2])<<16 + uint32(s[3])<<24
	}
	out := bps.Patch{InSum: four(p[n-ends:]), OutSum: four(p[n-8:])}
	rest := p[4 : n-ends]
	var u [3]uint64
	var e api.Errno
	for i := range u {
		u[i], rest, e = plainTake(rest)
		if e != api.OK {
			return none, e
		}
	}
	if u[0] > most || u[1] > most {
		return none, api.ErrLarge
	}
	if uint64(len(rest)) < u[2] {
		return none, api.ErrShort
	}
	out.In, out.Out, out.Meta = int(u[0]), int(u[1]), []byte(rest[:u[2]])
	out.L, e = plainActions(rest[u[2]:], out.Out)
	if e != api.OK {
		return none, e
	}
	return out, api.OK
}

// plainApply is what G2 says, byte by byte, of files that are not too large.
func plainApply(p, x string) (string, api.Errno) {
	q, e := plainParse(p)
	if e != api.OK {
		return "", e
	}
	if len(x) != q.In || sumOf(x) != q.InSum {
		return "", api.ErrSum
	}
	var out []byte
	source, target := int64(0), int64(0)
	for _, a := range q.L {
		switch a.Kind {
		case 2:
			source += a.Move
		case 3:
			target += a.Move
		}
		for i := range a.Len {
			from, at := x, int64(len(out))
			switch a.Kind {
			case 1:
				from, at = string(a.Data), int64(i)
			case 2:
				at = source
				source++
			case 3:
				from, at = string(out), target
				target++
			}
			if at < 0 || at >= int64(len(from)) {
				return "", api.ErrSize
			}
			out = append(out, from[at])
		}
	}
	if sumOf(string(out)) != q.OutSum {
		return "", api.ErrSize
	}
	return string(out), api.OK
}

// script is actions, and what they make of x, as far as they can be done.
type script struct {
	x, out         string
	actions        string
	source, target int
}

// add tells of one more action that looks like chance, and can be done.
func (s *script) add(c *numbers) {
	n := 1 + c.below(4)
	switch c.below(4) {
	case 0:
		if len(s.out)+n > len(s.x) {
			return
		}
		s.actions += fromSource(n)
		s.out += s.x[len(s.out) : len(s.out)+n]
	case 1:
		data := string(c.bytes(n, 5))
		s.actions += fromPatch(data)
		s.out += data
	case 2:
		if n > len(s.x) {
			return
		}
		at := c.below(len(s.x) - n + 1)
		s.actions += copySource(n, int64(at-s.source))
		s.out += s.x[at : at+n]
		s.source = at + n
	case 3:
		if len(s.out) == 0 {
			return
		}
		at := c.below(len(s.out))
		s.actions += copyTarget(n, int64(at-s.target))
		for i := range n {
			s.out += s.out[at+i : at+i+1]
		}
		s.target = at + n
	}
}

// someScript is up to five actions that can be done to some bytes.
func someScript(c *numbers) script {
	s := script{x: string(c.bytes(c.below(7), 5))}
	for range c.below(6) {
		s.add(c)
	}
	return s
}

// wild is actions that may well be wrong.
func wild(c *numbers) string {
	var out string
	for range c.below(4) {
		n, far := 1+c.below(3), int64(c.below(9)-4)
		if c.below(9) == 0 {
			far = []int64{furthest, -furthest + 1, furthest - 1}[c.below(3)]
		}
		switch c.below(6) {
		case 0:
			out += fromSource(n)
		case 1:
			out += fromPatch(string(c.bytes(n, 5)))
		case 2:
			out += copySource(n, far)
		case 3:
			out += copyTarget(n, far)
		case 4:
			out += string(c.bytes(c.below(4), 256))
		case 5:
			out += begin(c.below(4), n)
		}
	}
	return out
}

// somePatch is a patch of a script, now and then with something wrong in it, but with a last sum that fits most times.
func somePatch(c *numbers, s script) []byte {
	meta := string(c.bytes(c.below(4), 256))
	switch c.below(12) {
	case 0:
		return noted(s.x, s.out, meta, s.actions, wild(c))
	case 1:
		return noted(s.x, s.out, meta, wild(c))
	case 2:
		return raw(string(c.bytes(c.below(7), 256))+s.actions, s.x, s.out)
	case 3:
		return raw(number(uint64(c.below(6)))+number(uint64(c.below(6)))+number(uint64(c.below(6)))+s.actions, s.x, s.out)
	case 4:
		p := noted(s.x, s.out, meta, s.actions)
		return p[:c.below(len(p))]
	case 5:
		p := noted(s.x, s.out, meta, s.actions)
		p[c.below(len(p))] ^= byte(1 + c.below(255))
		return p
	case 6:
		p := noted(s.x, s.out, meta, s.actions)
		p[4+c.below(len(p)-8)] ^= byte(1 + c.below(255))
		return signed(string(p[:len(p)-4]))
	case 7:
		// Sizes that fit what wild actions write, so that they are done rather than parsed alone.
		actions := wild(c)
		for size := range 12 {
			if _, e := plainActions(actions, size); e == api.OK {
				return noted(s.x, nulls(size), meta, actions)
			}
		}
	}
	return noted(s.x, s.out, meta, s.actions)
}

// G1, G2: patches that look like chance answer as their sentences do; all errors are among them.
func TestMany(t *testing.T) {
	c := numbers(7)
	parsed, applied := map[api.Errno]int{}, map[api.Errno]int{}
	for range 60000 {
		s := someScript(&c)
		p := somePatch(&c, s)
		want, e := plainParse(string(p))
		parsed[e]++
		if got, told := bps.Parse(p); told != e || !samePatch(got, want) {
			t.Fatalf("%q: %s, %v instead of %s, %v", p, shown(got), told, shown(want), e)
		}
		for _, x := range []string{s.x, s.out, string(c.bytes(c.below(4), 5))} {
			want, e := plainApply(string(p), x)
			applied[e]++
			if out, got := bps.Apply(p, []byte(x)); string(out) != want || got != e {
				t.Fatalf("%q of %q: %q, %v instead of %q, %v", p, x, out, got, want, e)
			}
		}
	}
	for _, e := range []api.Errno{api.OK, api.ErrForm, api.ErrSum, api.ErrShort, api.ErrSize, api.ErrLarge} {
		if parsed[e] < 100 || applied[e] < 100 {
			t.Errorf("%v: %d and %d times", e, parsed[e], applied[e])
		}
	}
}

// R2: whatever is handed in, both end without a panic, and answer as their sentences do.
func TestWhatever(t *testing.T) {
	c := numbers(11)
	for range 30000 {
		p := c.bytes(c.below(40), 256)
		if len(p) >= 4 && c.below(4) > 0 {
			copy(p, "BPS1")
		}
		if c.below(4) > 0 {
			p = signed(string(p))
		}
		want, e := plainParse(string(p))
		if got, told := bps.Parse(p); told != e || !samePatch(got, want) {
			t.Fatalf("%q: %s, %v instead of %s, %v", p, shown(got), told, shown(want), e)
		}
		x := string(c.bytes(c.below(4), 256))
		out, e := plainApply(string(p), x)
		if got, told := bps.Apply(p, []byte(x)); string(got) != out || told != e {
			t.Fatalf("%q of %q: %q, %v instead of %q, %v", p, x, got, told, out, e)
		}
	}
}
