package ppu

const (
	rows    = 262
	rowDots = 341
	// drawnRows is how many rows are drawn, from the first one on; the last one is made ready for.
	drawnRows = 240
	lastRow   = rows - 1
	// VBLANK is set at flagDot of vblankRow, and cleared at that of the last row.
	vblankRow = 241
	flagDot   = 1
	// clockDot is where the cart's Clock is called.
	clockDot = 260
	// drawnBits are those of MASK that tell that something is drawn.
	drawnBits = 1<<3 | 1<<4
)

// Run goes on by so many dots (O3). Dots at which nothing is done are gone past at once.
func (p *PPU) Run(dots int) {
	for dots > 0 {
		n := min(dots, p.ahead())
		dots -= n
		p.move(n)
		p.come()
	}
}

// ahead tells how many dots on the next one is at which something may be done.
func (p *PPU) ahead() int {
	switch {
	case p.dot < flagDot:
		return flagDot - p.dot
	case p.dot < clockDot:
		return clockDot - p.dot
	}
	return rowDots + flagDot - p.dot
}

// move goes on by dots of which no more than one row's end is among them.
func (p *PPU) move(n int) {
	p.dot += n
	if p.dot < rowDots {
		return
	}
	p.dot -= rowDots
	p.row = (p.row + 1) % rows
}

// come does what is done at the dot that was come to.
func (p *PPU) come() {
	switch {
	case p.dot == flagDot && p.row == vblankRow:
		p.frames++
		p.setFlags(p.ctrl, true)
	case p.dot == flagDot && p.row == lastRow:
		p.setFlags(p.ctrl, false)
	case p.dot == clockDot && p.clocked():
		p.cart.Clock()
	}
}

// clocked tells whether the cart's Clock is called in this row.
func (p *PPU) clocked() bool {
	return (p.row < drawnRows || p.row == lastRow) && p.mask&drawnBits != 0
}

// setFlags sets CTRL and VBLANK. All that sets one of both goes this way, so that no NMI is missed.
func (p *PPU) setFlags(ctrl byte, vblank bool) {
	ahead := p.both()
	p.ctrl, p.vblank = ctrl, vblank
	if p.both() && !ahead {
		p.asked = true
	}
}

// both tells whether all is set that an NMI asks for.
func (p *PPU) both() bool { return p.vblank && p.ctrl&nmiBit != 0 }

// Place tells the row and the dot (O3).
func (p *PPU) Place() (row, dot int) { return p.row, p.dot }

// Frames tells how often VBLANK was set by time (O3).
func (p *PPU) Frames() int { return p.frames }

// NMI tells whether an NMI was asked for since it was called last (O3).
func (p *PPU) NMI() bool {
	asked := p.asked
	p.asked = false
	return asked
}
