package ppu_test

import (
	"testing"

	"picklock/ppu"
)

// story is what a chip tells of what is done to it by a seed: all answers, the last look, and what its cart was asked.
type story struct {
	p    *ppu.PPU
	c    *noting
	b    []byte
	told []int
}

func newStory(seed int) *story {
	p, c := made(mirrors[seed%4])
	copy(c.m[:], chance(seed+1, ownStart))
	return &story{p: p, c: c, b: chance(seed, 4*1500)}
}

// turn does the next thing, and tells whether there was one.
func (s *story) turn() bool {
	if len(s.b) == 0 {
		return false
	}
	m := newModel(&noting{})
	got, _ := both(s.p, m, s.b)
	s.told = append(s.told, got)
	s.b = s.b[4:]
	return true
}

func (s *story) end() *story {
	for s.turn() {
	}
	return s
}

// isStory fails if the one doesn't tell what the other does.
func isStory(t *testing.T, what string, got, want *story) {
	t.Helper()
	isList(t, what+": answers", got.told, want.told)
	isList(t, what+": what the cart was asked", got.c.calls, want.c.calls)
	isLook(t, what, got.p, lookOf(want.p))
}

// R3: two chips with a cart each have nothing to do with each other, whichever is called when.
func TestApart(t *testing.T) {
	for seed := range 5 {
		first, second := newStory(seed), newStory(seed+10)
		for first.turn() && second.turn() {
		}
		isStory(t, "the first", first.end(), newStory(seed).end())
		isStory(t, "the second", second.end(), newStory(seed+10).end())
	}
}

// R3: two plain carts have nothing to do with each other, and one chip's VRAM isn't the other's, if both have one cart.
func TestCartsApart(t *testing.T) {
	c, d := &ppu.Plain{}, &ppu.Plain{M: 1}
	p, q := ppu.New(c), ppu.New(d)
	p.Write(1, 8)
	put(p, 0x100, 7)
	p.Run(pictureDots)
	isSame(t, "the other's C", d.C[0x100], 0)
	isSame(t, "the other's Clocks", d.Clocks, 0)
	isLook(t, "the other chip", q, look{})
	r := ppu.New(c)
	put(p, 0x2000, 5)
	isLook(t, "another chip of the cart", r, look{})
	isSame(t, "the cart's byte", there(r, 0x100), 7)
}

// R4: of the same the same is told.
func TestAgain(t *testing.T) {
	for seed := range 10 {
		isStory(t, "again", newStory(seed).end(), newStory(seed).end())
	}
}
