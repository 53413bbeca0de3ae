package bpsmake

import (
	"picklock/bps"
	"picklock/octet"
	"picklock/varnum"
)

const (
	// kinds is how many kinds there are: by it an action's number is made of its kind and the rest.
	kinds = 4
	// long is how many bytes at the same places of a are taken without a look elsewhere: hardly anything could be better.
	long = 64
	// effort is how many looks at places a patch is worth; each place of b has its share of them, but at least fewestLooks.
	effort      = 1 << 27
	fewestLooks = 8
)

// maker tells b by actions, from its first byte on. The bytes from told up to at are left: no action was worth it, so that the patch itself has to tell them.
type maker struct {
	a, b           []byte
	known          *index
	looks          int
	source, target int
	told, at       int
	w              *octet.Writer
}

func newMaker(a, b []byte, w *octet.Writer) *maker {
	// A chain may have as many places as its text: were each one looked at, long texts would take too long.
	looks := max(fewestLooks, effort/max(len(b), 1))
	return &maker{a: a, b: b, looks: looks, w: w}
}

func (m *maker) tellAll() {
	for m.at < len(m.b) {
		if x := m.best(); x.Len > 0 && m.pays(x) {
			m.tellLeft()
			m.tell(x)
			m.at = m.told
		} else {
			m.at++
		}
	}
	m.tellLeft()
}

// best tells the action that gains most at the place; one of no bytes, if there is none.
func (m *maker) best() bps.Action {
	x := m.fromSource()
	if x.Len >= long || m.at+keyBytes > len(m.b) {
		return x
	}
	// Not made any earlier, since it may never be needed.
	if m.known == nil {
		m.known = newIndex(m.a, m.b)
	}
	return better(better(x, m.copySource()), m.copyTarget())
}

func (m *maker) fromSource() bps.Action {
	if m.at >= len(m.a) {
		return bps.Action{}
	}
	return bps.Action{Kind: bps.FromSource, Len: alike(m.a[m.at:], m.b[m.at:], 0)}
}

func (m *maker) copySource() bps.Action {
	place, n := m.known.longest(input, m.at, m.looks)
	return bps.Action{Kind: bps.CopySource, Len: n, Move: int64(place - m.source)}
}

func (m *maker) copyTarget() bps.Action {
	place, n := m.known.longest(output, m.at, m.looks)
	return bps.Action{Kind: bps.CopyTarget, Len: n, Move: int64(place - m.target)}
}

func better(x, y bps.Action) bps.Action {
	if gain(y) > gain(x) {
		return y
	}
	return x
}

// gain tells how many bytes fewer an action without Data has in a patch than it makes; below 0, if it makes none.
func gain(x bps.Action) int {
	if x.Len == 0 {
		return -1
	}
	return x.Len - size(x)
}

// size tells how many bytes an action has in a patch, beside its Data.
func size(x bps.Action) int {
	n := len(varnum.Put(number(x)))
	if moves(x) {
		n += len(varnum.Put(varnum.Turn(x.Move)))
	}
	return n
}

// number tells the number that an action begins with.
func number(x bps.Action) uint64 { return kinds*uint64(x.Len-1) + uint64(x.Kind) }

func moves(x bps.Action) bool { return x.Kind == bps.CopySource || x.Kind == bps.CopyTarget }

// pays tells whether x can't make the patch longer, whatever follows. Without x, what is left and bytes behind x could be told by one action; with x they take two. The number of the second one has no more bytes than the number of that one: so x has to make up for the first one's. (Hence no patch is longer than one that tells all of b itself.)
func (m *maker) pays(x bps.Action) bool {
	if m.told == m.at {
		return gain(x) >= 0
	}
	return gain(x) >= size(m.left())
}

// left is the action that tells what is left.
func (m *maker) left() bps.Action {
	return bps.Action{Kind: bps.FromPatch, Len: m.at - m.told, Data: m.b[m.told:m.at]}
}

func (m *maker) tellLeft() {
	if m.told < m.at {
		m.tell(m.left())
	}
}

// tell writes an action, and goes behind what it takes and what it makes.
func (m *maker) tell(x bps.Action) {
	m.w.Bytes(varnum.Put(number(x))).Bytes(x.Data)
	if moves(x) {
		m.w.Bytes(varnum.Put(varnum.Turn(x.Move)))
	}
	m.told += x.Len
	switch x.Kind {
	case bps.CopySource:
		m.source += int(x.Move) + x.Len
	case bps.CopyTarget:
		m.target += int(x.Move) + x.Len
	}
}
