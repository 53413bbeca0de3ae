package mos

// branch goes on at the address, if its flag is as it asks.
func (s *step) branch() {
	if !s.taken() {
		return
	}
	s.cycles++
	if s.crossed {
		s.cycles++
	}
	s.PC = s.at
}

func (s *step) taken() bool {
	switch s.does {
	case bpl:
		return !s.has(N)
	case bmi:
		return s.has(N)
	case bvc:
		return !s.has(V)
	case bvs:
		return s.has(V)
	case bcc:
		return !s.has(C)
	case bcs:
		return s.has(C)
	case bne:
		return !s.has(Z)
	default:
		return s.has(Z)
	}
}

// jump goes on somewhere else, or nowhere else: NOP.
func (s *step) jump() {
	switch s.does {
	case jmp:
		s.PC = s.at
	case jsr:
		s.pushWord(s.PC - 1)
		s.PC = s.at
	case rts:
		s.PC = s.pullWord() + 1
	case rti:
		s.pullFlags()
		s.PC = s.pullWord()
	case brk:
		s.interrupt(s.PC+1, B|U, breakVector)
	}
}
