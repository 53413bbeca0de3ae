package ppu_test

import (
	"math"
	"testing"

	"picklock/ppu"
)

// isPlace fails if the chip isn't behind so many dots of a picture.
func isPlace(t *testing.T, p *ppu.PPU, dots int) {
	t.Helper()
	row, dot := p.Place()
	if row != dots/rowDots%rows || dot != dots%rowDots {
		t.Fatalf("behind %d dots: row %d, dot %d", dots, row, dot)
	}
}

// O3: Place at each dot of each row, the last one of a row and of a picture too.
func TestPlace(t *testing.T) {
	p, _ := made(0)
	for n := range 2*pictureDots + 2 {
		isPlace(t, p, n)
		p.Run(1)
	}
}

// O3: Run of so many dots at once comes to the same place, from wherever it begins.
func TestPlaceAtOnce(t *testing.T) {
	for n := range pictureDots {
		p, _ := made(0)
		p.Run(n)
		isPlace(t, p, n)
	}
	for _, from := range []int{0, 1, 2, 259, 260, 261, 340, 341, 342, 5000, frameDot - 1, frameDot, clearDot, pictureDots - 1} {
		for n := range 3 * rowDots {
			p, _ := made(0)
			p.Run(from)
			p.Run(n)
			isPlace(t, p, from+n)
		}
	}
}

// O3: the edges by name.
func TestPlaceEdges(t *testing.T) {
	for _, x := range []struct{ dots, row, dot int }{{0, 0, 0}, {1, 0, 1}, {340, 0, 340}, {341, 1, 0}, {342, 1, 1}, {89341, 261, 340}, {89342, 0, 0}, {89343, 0, 1}, {89001, 261, 0}, {89000, 260, 340}} {
		p, _ := made(0)
		p.Run(x.dots)
		row, dot := p.Place()
		isSame(t, "row", row, x.row)
		isSame(t, "dot", dot, x.dot)
	}
}

// O3: Run of 0, and of a number below 0, does nothing.
func TestRunNone(t *testing.T) {
	for _, at := range []int{0, 1, 259, 260, frameDot - 1, frameDot, clearDot - 1, clearDot, pictureDots - 1, pictureDots + 5} {
		p, c := made(0)
		p.Write(0, 0x80)
		p.Write(1, 0x18)
		p.Run(at)
		p.NMI()
		want, calls := lookOf(p), len(c.calls)
		for _, n := range []int{0, -1, -2, -341, -89342, math.MinInt} {
			p.Run(n)
		}
		isLook(t, "behind none", p, want)
		isSame(t, "calls of the cart", len(c.calls), calls)
		isSame(t, "NMI", p.NMI(), false)
	}
}

// O3: at each dot of two pictures, how many Frames there are, and whether VBLANK stands.
func TestVBLANK(t *testing.T) {
	for n := range 2 * pictureDots {
		if m := n % pictureDots; m%rowDots > 2 && m%rowDots < 339 && m%7 != 0 {
			continue
		}
		p, _ := made(0)
		p.Run(n)
		frames, status := 0, byte(0)
		if n >= frameDot {
			frames = 1
		}
		if n >= pictureDots+frameDot {
			frames = 2
		}
		if m := n % pictureDots; m >= frameDot && m < clearDot {
			status = 0x80
		}
		if p.Frames() != frames || p.Read(2) != status || p.Read(2) != 0 {
			t.Fatalf("behind %d dots: %d Frames", n, p.Frames())
		}
	}
}

// O3: VBLANK is set at row 241, dot 1 and cleared at row 261, dot 1, and Frames is one more with the one; neither one dot sooner nor later.
func TestVBLANKEdges(t *testing.T) {
	p, _ := made(0)
	for picture := range 3 {
		at := picture * pictureDots
		isPlace(t, p, at)
		p.Run(frameDot - 1)
		isSame(t, "Frames", p.Frames(), picture)
		isSame(t, "VBLANK", p.Read(2), 0)
		p.Run(1)
		isSame(t, "Frames", p.Frames(), picture+1)
		isSame(t, "VBLANK", p.Read(2), 0x80)
		p.Run(1)
		isSame(t, "Frames", p.Frames(), picture+1)
		isSame(t, "VBLANK, cleared by the read", p.Read(2), 0)
		p.Run(pictureDots - frameDot - 1)
	}
	for _, x := range []struct {
		dots int
		want byte
	}{{clearDot - 1, 0x80}, {clearDot, 0}, {clearDot + 1, 0}} {
		p, _ := made(0)
		p.Run(x.dots)
		isSame(t, "VBLANK", p.Read(2), x.want)
		isSame(t, "Frames", p.Frames(), 1)
	}
}

// O3: Frames counts on if nobody reads 2, and Read of 2 doesn't change it.
func TestFrames(t *testing.T) {
	p, _ := made(0)
	p.Run(frameDot)
	for n := range 20 {
		isSame(t, "Frames", p.Frames(), n+1)
		if n%2 == 0 {
			p.Read(2)
		}
		p.Run(pictureDots)
	}
	p.Run(1000*pictureDots + 5)
	isSame(t, "Frames", p.Frames(), 1021)
	isPlace(t, p, frameDot+5)
}

// clocked tells at which dots of a picture a cart's Clock is called, if MASK is that.
func clocked(mask byte, run func(p *ppu.PPU)) []int {
	p, c := made(0)
	var out []int
	c.then = func() {
		row, dot := p.Place()
		out = append(out, row*rowDots+dot)
	}
	p.Write(1, mask)
	run(p)
	return out
}

// clockDots are those at which it is called, if something is drawn.
func clockDots() []int {
	var out []int
	for row := range rows {
		if row <= 239 || row == 261 {
			out = append(out, row*rowDots+260)
		}
	}
	return out
}

// O3: the cart's Clock is called at dot 260 of the rows 0 to 239 and 261, if bit 3 or bit 4 of MASK is set, and else never.
func TestClock(t *testing.T) {
	for mask := range 256 {
		var want []int
		if mask&0x18 != 0 {
			want = clockDots()
		}
		got := clocked(byte(mask), func(p *ppu.PPU) { p.Run(pictureDots) })
		isList(t, "Clocks", got, want)
		if t.Failed() {
			t.Fatalf("MASK %X", mask)
		}
	}
}

// O3: it is called once for a dot, in however many parts time goes by, and not one dot sooner nor later.
func TestClockParts(t *testing.T) {
	for _, part := range []int{1, 2, 3, 9, 260, 261, 340, 341, 342, 1000} {
		got := clocked(0x08, func(p *ppu.PPU) {
			for n := 0; n < pictureDots; n += part {
				p.Run(min(part, pictureDots-n))
			}
		})
		isList(t, "Clocks", got, clockDots())
	}
	p, c := made(0)
	p.Write(1, 0x10)
	p.Run(259)
	isSame(t, "at dot 259", len(c.calls), 0)
	p.Run(1)
	isSame(t, "at dot 260", len(c.calls), 1)
	p.Run(1)
	isSame(t, "at dot 261", len(c.calls), 1)
}

// O3: it is called for many pictures at once, as often as there are such dots.
func TestClockMany(t *testing.T) {
	c := &ppu.Plain{}
	p := ppu.New(c)
	p.Write(1, 0x18)
	p.Run(50 * pictureDots)
	isSame(t, "Clocks", c.Clocks, 50*241)
	p.Run(260)
	isSame(t, "Clocks", c.Clocks, 50*241+1)
}

// O3: MASK counts as it is at the dot.
func TestClockMask(t *testing.T) {
	p, c := made(0)
	for _, x := range []struct {
		mask  byte
		calls int
	}{{0x08, 1}, {0, 0}, {0x10, 1}, {0xE7, 0}, {0x18, 1}, {0xFF, 1}, {0x07, 0}} {
		calls := len(c.calls)
		p.Write(1, ^x.mask)
		p.Run(259)
		p.Write(1, x.mask)
		p.Run(1)
		isSame(t, "Clocks", len(c.calls)-calls, x.calls)
		p.Write(1, 0x18)
		p.Run(81)
	}
}

// O3: a cart that writes to MASK with its Clock changes the dots that follow.
func TestClockWrites(t *testing.T) {
	p, c := made(0)
	c.then = func() { p.Write(1, 0) }
	p.Write(1, 0x08)
	p.Run(3 * pictureDots)
	isSame(t, "Clocks", len(c.calls), 1)
	isPlace(t, p, 0)
}

// O3: with a Clock the cart is asked nothing else, and nothing of the chip changes but time.
func TestClockAlone(t *testing.T) {
	p, c := made(0)
	scramble(p, 8)
	p.Write(1, 0x18)
	want, calls := lookOf(p), len(c.calls)
	p.Run(10 * pictureDots)
	want.frames += 10
	isLook(t, "behind ten pictures", p, want)
	isSame(t, "Clocks", len(c.calls)-calls, 2410)
	for _, x := range c.calls[calls:] {
		isSame(t, "call", x, call{what: 'c'})
	}
}
