package ppu

import "picklock/ines"

const (
	// memoryEnd is behind the last address that there is.
	memoryEnd = 0x4000
	// ownStart is the first address whose byte is not the cart's.
	ownStart     = 0x2000
	paletteStart = 0x3F00
	// behindPalette is how far below an address of PALETTE's the byte of VRAM lies that it hides.
	behindPalette = 0x1000
	// paletteBits are those that a byte of PALETTE has.
	paletteBits = 0x3F
	// tableBytes is how many bytes each of the tables has, of which VRAM has place for two.
	tableBytes = 1024
	tables     = 4
	// paletteRow is how many bytes of PALETTE begin with one that both halves of it have in common.
	paletteRow = 4
	// vramBytes and paletteBytes are how many there are.
	vramBytes    = 2 * tableBytes
	paletteBytes = 32
)

// load tells the byte at an address.
func (p *PPU) load(a uint16) byte {
	if a < ownStart {
		return p.cart.ReadCHR(a)
	}
	return *p.places()(a)
}

// store sets the byte at an address.
func (p *PPU) store(a uint16, v byte) {
	if a < ownStart {
		p.cart.WriteCHR(a, v)
		return
	}
	if a >= paletteStart {
		v &= paletteBits
	}
	*p.places()(a) = v
}

// places makes what tells where the byte of an address lies that is not the cart's. The cart is asked each time, as it may mirror VRAM in another way the next time.
func (p *PPU) places() func(a uint16) *byte {
	return func(a uint16) *byte {
		if a >= paletteStart {
			return &p.palette[paletteAt(int(a))]
		}
		table := int(a) / tableBytes % tables
		return &p.vram[half(p.cart.Mirror(), table)*tableBytes+int(a)%tableBytes]
	}
}

// half tells in which half of VRAM a table lies: in the first one, if it isn't said otherwise.
func half(mirror, table int) int {
	switch mirror {
	case ines.Horizontal:
		return table / 2
	case ines.Vertical:
		return table % 2
	case ines.Upper:
		return 1
	}
	return 0
}

// paletteAt tells the place in PALETTE of an address.
func paletteAt(a int) int {
	a %= paletteBytes
	if a%paletteRow == 0 {
		a %= paletteBytes / 2
	}
	return a
}
