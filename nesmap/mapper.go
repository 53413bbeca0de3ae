package nesmap

import "picklock/ines"

// mapper is what a mapper does. It need not know how many pages and units there are: those that it tells are counted round, so that below 0 it tells the last ones.
type mapper interface {
	// write is called with addresses from prgStart on.
	write(a uint16, v byte)
	// page tells which page stands at one of the four spans, unit which unit at one of the eight.
	page(span int) int
	unit(span int) int
	mirror() int
	clock()
	irq() bool
}

// mapperOf tells what a cart's mapper does at first, if it is one that is known.
func mapperOf(c ines.Cart) (does mapper, known bool) {
	in := common{mirrored: c.Mirror}
	switch c.Mapper {
	case 0:
		return &plain{in}, true
	case 1:
		return newSerial(), true
	case 2:
		return &pageSwitch{common: in}, true
	case 3:
		return &unitSwitch{common: in}, true
	case 4:
		return &counting{common: in}, true
	}
	return nil, false
}

// common is what the mappers have in common: each embeds it, and has methods of its own for what it does otherwise.
type common struct {
	mirrored int
}

func (c *common) write(uint16, byte) {}
func (c *common) page(span int) int  { return span }
func (c *common) unit(span int) int  { return span }
func (c *common) mirror() int        { return c.mirrored }
func (c *common) clock()             {}
func (c *common) irq() bool          { return false }

// spans is how many there are of PRG's.
const spans = 4

// fromLast tells of the last spans the last pages, in their order.
func fromLast(span int) int { return span - spans }

// twoAndLast tells the two pages from one on, and the last two.
func twoAndLast(from, span int) int {
	if span < 2 {
		return from + span
	}
	return fromLast(span)
}

// plain is Mapper 0.
type plain struct {
	common
}

// pageSwitch is Mapper 2.
type pageSwitch struct {
	common
	number byte
}

func (p *pageSwitch) write(_ uint16, v byte) { p.number = v }
func (p *pageSwitch) page(span int) int      { return twoAndLast(2*int(p.number), span) }

// unitSwitch is Mapper 3.
type unitSwitch struct {
	common
	number byte
}

func (u *unitSwitch) write(_ uint16, v byte) { u.number = v }
func (u *unitSwitch) unit(span int) int      { return 8*int(u.number) + span }
