package ppu

// Next and At tell the two addresses that no call tells: of some of NEXT's bits nothing is seen from outside.
func (p *PPU) Next() uint16 { return p.next }
func (p *PPU) At() uint16   { return p.at }
