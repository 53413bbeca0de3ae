package ppu_test

import (
	"slices"
	"testing"

	"picklock/ines"
	"picklock/ppu"
)

// The sizes, and the edges of the addresses.
const (
	oamBytes     = 256
	vramBytes    = 2048
	paletteBytes = 32
	memoryEnd    = 0x4000
	ownStart     = 0x2000
	paletteStart = 0x3F00
)

const (
	rowDots     = 341
	rows        = 262
	pictureDots = rows * rowDots
	// frameDot is behind how many dots VBLANK is set first, and clearDot behind how many it is cleared.
	frameDot = 241*rowDots + 1
	clearDot = 261*rowDots + 1
)

// mirrors are the four of layer 9.
var mirrors = []int{ines.Horizontal, ines.Vertical, ines.Lower, ines.Upper}

// call is what a noting cart was asked.
type call struct {
	what byte
	a    uint16
	v    byte
}

// noting is a cart that has a byte at each address, and notes what it is asked; it does then what then says with each Clock.
type noting struct {
	m      [65536]byte
	mirror int
	calls  []call
	then   func()
}

func (n *noting) ReadCHR(a uint16) byte {
	n.calls = append(n.calls, call{'r', a, n.m[a]})
	return n.m[a]
}

func (n *noting) WriteCHR(a uint16, v byte) {
	n.calls = append(n.calls, call{'w', a, v})
	n.m[a] = v
}

func (n *noting) Mirror() int { return n.mirror }

func (n *noting) Clock() {
	n.calls = append(n.calls, call{what: 'c'})
	if n.then != nil {
		n.then()
	}
}

// look is all that is told without anything being changed.
type look struct {
	oam      [oamBytes]byte
	vram     [vramBytes]byte
	palette  [paletteBytes]byte
	row, dot int
	frames   int
	at, next uint16
}

func lookOf(p *ppu.PPU) look {
	var l look
	for i := range l.oam {
		l.oam[i] = p.OAM(i)
	}
	for i := range l.vram {
		l.vram[i] = p.VRAM(i)
	}
	for i := range l.palette {
		l.palette[i] = p.Palette(i)
	}
	l.row, l.dot = p.Place()
	l.frames = p.Frames()
	l.at, l.next = p.At(), p.Next()
	return l
}

// isLook fails if the chip doesn't tell what is wanted.
func isLook(t *testing.T, what string, p *ppu.PPU, want look) {
	t.Helper()
	got := lookOf(p)
	if got == want {
		return
	}
	t.Errorf("%s: row %d, dot %d, %d Frames, AT %X, NEXT %X, want row %d, dot %d, %d Frames, AT %X, NEXT %X", what, got.row, got.dot, got.frames, got.at, got.next, want.row, want.dot, want.frames, want.at, want.next)
	differ(t, what+", OAM", got.oam[:], want.oam[:])
	differ(t, what+", VRAM", got.vram[:], want.vram[:])
	differ(t, what+", PALETTE", got.palette[:], want.palette[:])
}

// differ tells the first byte that isn't as it is wanted.
func differ(t *testing.T, what string, got, want []byte) {
	t.Helper()
	for i := range got {
		if got[i] != want[i] {
			t.Errorf("%s at %X: %X, want %X", what, i, got[i], want[i])
			return
		}
	}
}

// to makes AT an address; a write to 6 ahead of it must not be half done.
func to(p *ppu.PPU, a uint16) {
	p.Write(6, byte(a>>8))
	p.Write(6, byte(a))
}

// put writes bytes, one behind the other, from an address on.
func put(p *ppu.PPU, a uint16, l ...byte) {
	to(p, a)
	for _, v := range l {
		p.Write(7, v)
	}
}

// get tells n reads of 7, of which the first one is made at an address.
func get(p *ppu.PPU, a uint16, n int) []byte {
	to(p, a)
	var out []byte
	for range n {
		out = append(out, p.Read(7))
	}
	return out
}

// there tells the byte at an address by what is read there.
func there(p *ppu.PPU, a uint16) byte {
	if a%memoryEnd >= paletteStart {
		return get(p, a, 1)[0]
	}
	get(p, a, 1)
	return get(p, 0x2000, 1)[0]
}

// made makes a chip with a noting cart.
func made(mirror int) (*ppu.PPU, *noting) {
	c := &noting{mirror: mirror}
	return ppu.New(c), c
}

// chance tells n bytes that hang on the seed alone.
func chance(seed, n int) []byte {
	out := make([]byte, n)
	x := uint64(seed)*2654435761 + 88172645463325252
	for i := range out {
		x ^= x << 13
		x ^= x >> 7
		x ^= x << 17
		out[i] = byte(x >> 24)
	}
	return out
}

// isSame fails if got isn't want.
func isSame[T comparable](t *testing.T, what string, got, want T) {
	t.Helper()
	if got != want {
		t.Errorf("%s: %v, want %v", what, got, want)
	}
}

// isList fails if got hasn't want's items.
func isList[T comparable](t *testing.T, what string, got, want []T) {
	t.Helper()
	if !slices.Equal(got, want) {
		t.Errorf("%s: %v, want %v", what, got, want)
	}
}
