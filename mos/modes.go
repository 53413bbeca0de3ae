package mos

// operand reads the operand, and whatever else tells the address that it gives.
func (s *step) operand() {
	switch s.mode {
	case immediate:
		// The byte is read by what is done with it, as that at any other address is.
		s.at = s.PC
		s.PC++
	case zeroPage:
		s.at = uint16(s.next())
	case zeroPageX:
		s.at = uint16(s.next() + s.X)
	case zeroPageY:
		s.at = uint16(s.next() + s.Y)
	case absolute:
		s.at = s.nextWord()
	case absoluteX:
		s.reach(s.nextWord(), uint16(s.X))
	case absoluteY:
		s.reach(s.nextWord(), uint16(s.Y))
	case indirect:
		s.at = s.wordInPage(s.nextWord())
	case indirectOfX:
		s.at = s.wordInPage(uint16(s.next() + s.X))
	case indirectY:
		s.reach(s.wordInPage(uint16(s.next())), uint16(s.Y))
	case relative:
		by := int8(s.next())
		s.reach(s.PC, uint16(by))
	}
	if s.crossed && waits(s.does) {
		s.cycles++
	}
}

// reach gives the address that lies so far behind another one.
func (s *step) reach(from, by uint16) {
	s.at = from + by
	s.crossed = s.at&page != from&page
}

// waits tells whether an instruction takes one cycle more if the address is crossed.
func waits(does uint32) bool {
	switch does {
	case ora, and, eor, adc, lda, cmp, sbc, ldx, ldy:
		return true
	}
	return false
}
