package nesmap

import "picklock/ines"

// Bits of SELECT; its lowest ones tell a register.
const (
	turnedPages = 1 << 6
	turnedUnits = 1 << 7
)

// counting is Mapper 4: it counts towards interrupts. That its counter must be loaded is told by its being 0: it is then loaded whatever made it 0.
type counting struct {
	common
	selected  byte
	registers [8]byte
	latch     byte
	counter   byte
	allowed   bool
	asked     bool
}

func (c *counting) write(a uint16, v byte) {
	if a%2 == 0 {
		c.writeEven(spanOf(a), v)
	} else {
		c.writeOdd(spanOf(a), v)
	}
}

func (c *counting) writeEven(span int, v byte) {
	switch span {
	case 0:
		c.selected = v
	case 1:
		c.mirrored = ines.Vertical
		if v&1 != 0 {
			c.mirrored = ines.Horizontal
		}
	case 2:
		c.latch = v
	case 3:
		c.allowed, c.asked = false, false
	}
}

func (c *counting) writeOdd(span int, v byte) {
	switch span {
	case 0:
		c.registers[int(c.selected)%len(c.registers)] = v
	case 2:
		c.counter = 0
	case 3:
		c.allowed = true
	}
}

func (c *counting) page(span int) int {
	if c.selected&turnedPages != 0 && span%2 == 0 {
		span = 2 - span
	}
	switch span {
	case 0:
		return int(c.registers[6])
	case 1:
		return int(c.registers[7])
	}
	return fromLast(span)
}

func (c *counting) unit(span int) int {
	if c.selected&turnedUnits != 0 {
		span = (span + 4) % 8
	}
	if span < 4 {
		return int(c.registers[span/2]&^1) + span%2
	}
	return int(c.registers[span-2])
}

func (c *counting) clock() {
	if c.counter == 0 {
		c.counter = c.latch
	} else {
		c.counter--
	}
	if c.counter == 0 && c.allowed {
		c.asked = true
	}
}

func (c *counting) irq() bool { return c.asked }
