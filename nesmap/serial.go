package nesmap

import "picklock/ines"

// The registers of Mapper 1, each of which is laid by the addresses of the span that has its number.
const (
	control = iota
	low
	high
	prg
)

const (
	// numberBits is how many writes make a number.
	numberBits = 5
	// anewFrom is the least v with which a number begins anew.
	anewFrom = 128
)

// Bits of CONTROL.
const (
	mirrorBits = 1<<0 | 1<<1
	modeBits   = 1<<2 | 1<<3
	modeLow    = 2
	halvesBit  = 1 << 4
)

// pageBits are those of PRG's register that tell pages.
const pageBits = 0x0F

// serial is Mapper 1: a number comes bit by bit.
type serial struct {
	common
	registers [spans]byte
	gathered  byte
	count     int
}

func newSerial() *serial {
	s := &serial{}
	s.registers[control] = modeBits
	return s
}

func (s *serial) beginAnew() { s.gathered, s.count = 0, 0 }

func (s *serial) write(a uint16, v byte) {
	if v >= anewFrom {
		s.beginAnew()
		s.registers[control] |= modeBits
		return
	}
	s.gathered |= (v & 1) << s.count
	s.count++
	if s.count == numberBits {
		s.registers[spanOf(a)] = s.gathered
		s.beginAnew()
	}
}

func (s *serial) mirror() int {
	switch s.registers[control] & mirrorBits {
	case 0:
		return ines.Lower
	case 1:
		return ines.Upper
	case 2:
		return ines.Vertical
	}
	return ines.Horizontal
}

func (s *serial) page(span int) int {
	b := int(s.registers[prg] & pageBits)
	switch (s.registers[control] & modeBits) >> modeLow {
	case 2:
		if span < 2 {
			return span
		}
		return 2*b + span - 2
	case 3:
		return twoAndLast(2*b, span)
	}
	return b/2*4 + span
}

func (s *serial) unit(span int) int {
	if s.registers[control]&halvesBit == 0 {
		return int(s.registers[low])/2*8 + span
	}
	if span < 4 {
		return int(s.registers[low])*4 + span
	}
	return int(s.registers[high])*4 + span - 4
}
