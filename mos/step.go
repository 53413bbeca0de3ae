package mos

// step is what one CPU does to one bus: the registers are the CPU's own. It has one instruction's row, the address that its operand gives, and whether that is crossed.
type step struct {
	*CPU
	bus Bus
	row
	at      uint16
	crossed bool
}

const (
	// stackStart is the first address of the page in which S counts.
	stackStart = 0x0100
	// page is those bits of an address that tell its page.
	page = 0xFF00
)

// next reads a byte of the operand.
func (s *step) next() byte {
	v := s.bus.Read(s.PC)
	s.PC++
	return v
}

// nextWord reads two bytes of the operand.
func (s *step) nextWord() uint16 {
	low := s.next()
	return wordOf(low, s.next())
}

// word reads the word at an address.
func (s *step) word(a uint16) uint16 {
	low := s.bus.Read(a)
	return wordOf(low, s.bus.Read(a+1))
}

// wordInPage reads the word at an address, whose second byte lies in the same page as its first.
func (s *step) wordInPage(a uint16) uint16 {
	low := s.bus.Read(a)
	return wordOf(low, s.bus.Read(a&page|(a+1)&^page))
}

func wordOf(low, high byte) uint16 { return uint16(low) | uint16(high)<<8 }

func (s *step) push(v byte) {
	s.bus.Write(stackStart|uint16(s.S), v)
	s.S--
}

func (s *step) pushWord(w uint16) {
	s.push(byte(w >> 8))
	s.push(byte(w))
}

// pushFlags pushes P with those of B and U that are handed in.
func (s *step) pushFlags(with byte) {
	s.push(s.P&^(B|U) | with)
}

func (s *step) pull() byte {
	s.S++
	return s.bus.Read(stackStart | uint16(s.S))
}

func (s *step) pullWord() uint16 {
	low := s.pull()
	return wordOf(low, s.pull())
}

func (s *step) pullFlags() {
	s.P = s.pull() &^ (B | U)
}

// interrupt notes where to come back to, and goes on at the word at the vector.
func (s *step) interrupt(back uint16, with byte, vector uint16) {
	s.pushWord(back)
	s.pushFlags(with)
	s.set(I, true)
	s.PC = s.word(vector)
}

// set sets or clears a flag.
func (s *step) set(flag byte, on bool) {
	s.P &^= flag
	if on {
		s.P |= flag
	}
}

// has tells whether a flag is set.
func (s *step) has(flag byte) bool { return s.P&flag != 0 }

// result sets Z and N by v, and tells it.
func (s *step) result(v byte) byte {
	s.set(Z, v == 0)
	s.set(N, v&N != 0)
	return v
}
