package ppu_test

import (
	"testing"

	"picklock/ines"
	"picklock/ppu"
)

// model is a chip by the chapter's words, in numbers of which each is reckoned as it is said there, dot by dot.
type model struct {
	cart                    *noting
	ctrl, mask              int
	vblank, second, asked   bool
	oamAt, buffer, at, next int
	last, row, dot, frames  int
	oam, vram, palette      []int
}

func newModel(c *noting) *model {
	return &model{cart: c, oam: make([]int, oamBytes), vram: make([]int, vramBytes), palette: make([]int, paletteBytes)}
}

// bit tells bit n of v.
func bit(v, n int) int { return v >> n & 1 }

// with is v with n bits from the one of number low on being those of w.
func with(v, low, n, w int) int {
	for i := range n {
		v = v&^(1<<(low+i)) | bit(w, i)<<(low+i)
	}
	return v
}

// allowed is what an NMI asks for.
func (m *model) allowed() bool { return m.vblank && bit(m.ctrl, 7) == 1 }

// watch asks for an NMI if it was not allowed ahead of what is done, and is then.
func (m *model) watch(done func()) {
	ahead := m.allowed()
	done()
	if !ahead && m.allowed() {
		m.asked = true
	}
}

// cell tells the place of an address that isn't the cart's.
func (m *model) cell(a int) *int {
	if a >= 0x3F00 {
		i := a & 0x1F
		if i == 0x10 || i == 0x14 || i == 0x18 || i == 0x1C {
			i -= 0x10
		}
		return &m.palette[i]
	}
	which := map[int][4]int{ines.Horizontal: {0, 0, 1, 1}, ines.Vertical: {0, 1, 0, 1}, ines.Lower: {0, 0, 0, 0}, ines.Upper: {1, 1, 1, 1}}[m.cart.mirror]
	return &m.vram[which[bit(a, 11)*2+bit(a, 10)]*1024+a&0x3FF]
}

func (m *model) at14(a int) int {
	if a < 0x2000 {
		return int(m.cart.ReadCHR(uint16(a)))
	}
	return *m.cell(a)
}

func (m *model) goOn() {
	if bit(m.ctrl, 2) == 1 {
		m.at += 32
	} else {
		m.at++
	}
	m.at %= 32768
}

func (m *model) read(reg int) int {
	switch (reg%8 + 8) % 8 {
	case 2:
		v := m.last % 32
		if m.vblank {
			v += 0x80
		}
		m.watch(func() { m.vblank = false })
		m.second = false
		return v
	case 4:
		return m.oam[m.oamAt]
	case 7:
		a := m.at % 16384
		v := m.buffer
		if a < 0x3F00 {
			m.buffer = m.at14(a)
		} else {
			v = *m.cell(a)
			m.buffer = m.at14(a - 0x1000)
		}
		m.goOn()
		return v
	}
	return m.last
}

func (m *model) write(reg, v int) {
	m.last = v
	switch (reg%8 + 8) % 8 {
	case 0:
		m.watch(func() { m.ctrl = v })
		m.next = with(m.next, 10, 2, v)
	case 1:
		m.mask = v
	case 3:
		m.oamAt = v
	case 4:
		m.oam[m.oamAt] = v
		m.oamAt = (m.oamAt + 1) % 256
	case 5:
		if !m.second {
			m.next = with(m.next, 0, 5, v/8)
		} else {
			m.next = with(m.next, 12, 3, v%8)
			m.next = with(m.next, 5, 5, v/8)
		}
		m.second = !m.second
	case 6:
		if !m.second {
			m.next = with(m.next, 8, 6, v)
			m.next = with(m.next, 14, 1, 0)
		} else {
			m.next = with(m.next, 0, 8, v)
			m.at = m.next
		}
		m.second = !m.second
	case 7:
		a := m.at % 16384
		switch {
		case a < 0x2000:
			m.cart.WriteCHR(uint16(a), byte(v))
		case a < 0x3F00:
			*m.cell(a) = v
		default:
			*m.cell(a) = v % 64
		}
		m.goOn()
	}
}

func (m *model) run(dots int) {
	for range dots {
		m.dot++
		if m.dot == 341 {
			m.dot = 0
			m.row++
		}
		if m.row == 262 {
			m.row = 0
		}
		switch {
		case m.row == 241 && m.dot == 1:
			m.watch(func() { m.vblank = true })
			m.frames++
		case m.row == 261 && m.dot == 1:
			m.vblank = false
		case m.dot == 260 && (m.row <= 239 || m.row == 261) && (bit(m.mask, 3) == 1 || bit(m.mask, 4) == 1):
			m.cart.Clock()
		}
	}
}

func (m *model) fill(l [256]byte) {
	for i, v := range l {
		m.oam[(m.oamAt+i)%256] = int(v)
	}
}

func (m *model) nmi() bool {
	v := m.asked
	m.asked = false
	return v
}

// look tells the model as the chip is told.
func (m *model) look() look {
	l := look{row: m.row, dot: m.dot, frames: m.frames, at: uint16(m.at), next: uint16(m.next)}
	for i, v := range m.oam {
		l.oam[i] = byte(v)
	}
	for i, v := range m.vram {
		l.vram[i] = byte(v)
	}
	for i, v := range m.palette {
		l.palette[i] = byte(v)
	}
	return l
}

// both do what four bytes tell to a chip and to its model, and tell what each answers.
func both(p *ppu.PPU, m *model, b []byte) (got, want int) {
	v := int(b[2])
	switch b[0] % 16 {
	case 0:
		p.Run(v * int(b[3]))
		m.run(v * int(b[3]))
	case 1:
		// Near the dots where something is done.
		near := []int{frameDot, clearDot, 260, 261*rowDots + 260, 239*rowDots + 260, 240*rowDots + 260, pictureDots}[v%7]
		n := (near-m.row*rowDots-m.dot+pictureDots)%pictureDots + int(b[3]%3) - 1
		p.Run(n)
		m.run(n)
	case 2:
		if p.NMI() {
			got = 1
		}
		if m.nmi() {
			want = 1
		}
	case 3:
		l := [oamBytes]byte(chance(v, oamBytes))
		p.Fill(l)
		m.fill(l)
	case 4:
		return int(p.Read(2)), m.read(2)
	case 5, 6, 7:
		reg := int(int8(b[1]))
		return int(p.Read(reg)), m.read(reg)
	case 8:
		return int(p.Read(7)), m.read(7)
	case 9:
		p.Write(0, byte(v))
		m.write(0, v)
	default:
		reg := int(int8(b[1]))
		p.Write(reg, byte(v))
		m.write(reg, v)
	}
	return got, want
}

// O1, O2, O3: whatever is done, the chip tells the same as the model, and asks its cart the same.
func TestModel(t *testing.T) {
	for seed := range 60 {
		p, c := made(mirrors[seed%4])
		d := &noting{mirror: c.mirror}
		m := newModel(d)
		b := chance(seed, 4*2000)
		for i := 0; i < len(b); i += 4 {
			if got, want := both(p, m, b[i:]); got != want {
				t.Fatalf("seed %d, turn %d, %X: %X, want %X", seed, i/4, b[i:i+4], got, want)
			}
			if i%400 == 0 {
				c.mirror = mirrors[int(b[i])%4]
				d.mirror = c.mirror
				isLook(t, "a look", p, m.look())
			}
			if t.Failed() {
				t.Fatalf("seed %d, turn %d, %X", seed, i/4, b[i:i+4])
			}
		}
		isLook(t, "the last look", p, m.look())
		isList(t, "what the cart was asked", c.calls, d.calls)
	}
}
