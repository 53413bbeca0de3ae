package ppu

// registers is how many there are.
const registers = 8

// The registers that are not read and written alike.
const (
	ctrlReg = iota
	maskReg
	statusReg
	oamAtReg
	oamReg
	scrollReg
	addressReg
	dataReg
)

const (
	// vblankBit tells VBLANK in what is read of statusReg, where lastBits are those of LAST.
	vblankBit = 0x80
	lastBits  = 0x1F
)

// Bits of CTRL.
const (
	// downBit makes AT go on by a whole row of a table.
	downBit = 1 << 2
	nmiBit  = 1 << 7
)

const (
	// rowBytes is how many bytes of VRAM stand for a row.
	rowBytes = 32
	// addressBits are those of AT and of NEXT.
	addressBits = 0x7FFF
)

// Bits of NEXT: which table is meant, which column and which row of it, and which row of what stands there; and those that a first and a second byte set together.
const (
	tableBits  = 0x0C00
	columnBits = 0x001F
	rowBits    = 0x03E0
	fineBits   = 0x7000
	highBits   = 0x7F00
	lowBits    = 0x00FF
)

// Numbers of the lowest ones of these bits.
const (
	tableLow = 10
	rowLow   = 5
	fineLow  = 12
	highLow  = 8
)

const (
	// fineWidth is how many bits of what is written to scrollReg tell less than a whole column or row.
	fineWidth = 3
	// highest are those bits of a first byte that are set in NEXT; the one above them is cleared.
	highest = 0x3F
)

// Read tells what is read of a register (O2).
func (p *PPU) Read(reg int) byte {
	switch reg & (registers - 1) {
	case statusReg:
		return p.readStatus()
	case oamReg:
		return p.oam[p.oamAt]
	case dataReg:
		return p.readData()
	}
	return p.last
}

// readStatus tells VBLANK, which is cleared by it.
func (p *PPU) readStatus() byte {
	v := p.last & lastBits
	if p.vblank {
		v |= vblankBit
	}
	p.setFlags(p.ctrl, false)
	p.second = false
	return v
}

// readData tells the byte at AT: of PALETTE at once, else with the next read.
func (p *PPU) readData() byte {
	a := p.at % memoryEnd
	v := p.buffer
	if a < paletteStart {
		p.buffer = p.load(a)
	} else {
		v = p.load(a)
		p.buffer = p.load(a - behindPalette)
	}
	p.goOn()
	return v
}

// goOn moves AT behind what was read or written there.
func (p *PPU) goOn() {
	if p.ctrl&downBit != 0 {
		p.at += rowBytes
	} else {
		p.at++
	}
	p.at &= addressBits
}

// Write does what a byte does that is written to a register (O2).
func (p *PPU) Write(reg int, v byte) {
	p.last = v
	switch reg & (registers - 1) {
	case ctrlReg:
		p.setFlags(v, p.vblank)
		p.setNext(tableBits, uint16(v)<<tableLow)
	case maskReg:
		p.mask = v
	case oamAtReg:
		p.oamAt = v
	case oamReg:
		p.oam[p.oamAt] = v
		p.oamAt++
	case scrollReg:
		p.scroll(v)
	case addressReg:
		p.address(v)
	case dataReg:
		p.store(p.at%memoryEnd, v)
		p.goOn()
	}
}

// scroll sets NEXT's column, or else its row.
func (p *PPU) scroll(v byte) {
	whole := uint16(v >> fineWidth)
	if !p.second {
		p.setNext(columnBits, whole)
	} else {
		p.setNext(fineBits, uint16(v)<<fineLow)
		p.setNext(rowBits, whole<<rowLow)
	}
	p.second = !p.second
}

// address sets NEXT's highest bits, or else its lowest ones, and AT by it.
func (p *PPU) address(v byte) {
	if !p.second {
		p.setNext(highBits, uint16(v&highest)<<highLow)
	} else {
		p.setNext(lowBits, uint16(v))
		p.at = p.next
	}
	p.second = !p.second
}

// setNext makes these bits of NEXT those of v.
func (p *PPU) setNext(bits, v uint16) { p.next = p.next&^bits | v&bits }

// Fill writes all of OAM, from OAM's address on (O2).
func (p *PPU) Fill(l [256]byte) {
	for i, v := range l {
		p.oam[p.oamAt+byte(i)] = v
	}
}
