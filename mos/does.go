package mos

import "picklock/alu"

// do does the instruction, whose operand has been read.
func (s *step) do() {
	switch s.does {
	case ora, and, eor, adc, sbc, lda, ldx, ldy:
		s.take(s.bus.Read(s.at))
	case cmp, cpx, cpy, bit:
		s.test(s.bus.Read(s.at))
	case sta:
		s.bus.Write(s.at, s.A)
	case stx:
		s.bus.Write(s.at, s.X)
	case sty:
		s.bus.Write(s.at, s.Y)
	case asl, rol, lsr, ror, dec, inc:
		s.change()
	case dex, dey, inx, iny, tax, tay, txa, tya, tsx, txs:
		s.register()
	case bpl, bmi, bvc, bvs, bcc, bcs, bne, beq:
		s.branch()
	case clc, cli, clv, cld, sec, sei, sed:
		s.flag()
	case pha, php, pla, plp:
		s.stack()
	default:
		s.jump()
	}
}

// take makes a register of it and of M, or of M alone.
func (s *step) take(m byte) {
	switch s.does {
	case ora:
		s.A = s.result(s.A | m)
	case and:
		s.A = s.result(s.A & m)
	case eor:
		s.A = s.result(s.A ^ m)
	case adc:
		s.sum(alu.Add(s.A, m, s.has(C)))
	case sbc:
		s.sum(alu.Sub(s.A, m, s.has(C)))
	case lda:
		s.A = s.result(m)
	case ldx:
		s.X = s.result(m)
	case ldy:
		s.Y = s.result(m)
	}
}

func (s *step) sum(r byte, c, o bool) {
	s.A = s.result(r)
	s.set(C, c)
	s.set(V, o)
}

// test sets flags by M and a register.
func (s *step) test(m byte) {
	switch s.does {
	case cmp:
		s.compared(alu.Compare(s.A, m))
	case cpx:
		s.compared(alu.Compare(s.X, m))
	case cpy:
		s.compared(alu.Compare(s.Y, m))
	case bit:
		z, n, o := alu.Bit(s.A, m)
		s.set(Z, z)
		s.set(N, n)
		s.set(V, o)
	}
}

func (s *step) compared(c, z, n bool) {
	s.set(C, c)
	s.set(Z, z)
	s.set(N, n)
}

// change makes another byte of A, or of M, which is read and then written.
func (s *step) change() {
	if s.mode == accumulator {
		s.A = s.changed(s.A)
		return
	}
	s.bus.Write(s.at, s.changed(s.bus.Read(s.at)))
}

func (s *step) changed(v byte) byte {
	switch s.does {
	case asl:
		return s.shifted(alu.Left(v, false))
	case rol:
		return s.shifted(alu.Left(v, s.has(C)))
	case lsr:
		return s.shifted(alu.Right(v, false))
	case ror:
		return s.shifted(alu.Right(v, s.has(C)))
	case dec:
		return s.result(v - 1)
	default:
		return s.result(v + 1)
	}
}

func (s *step) shifted(r byte, c bool) byte {
	s.set(C, c)
	return s.result(r)
}

// register makes one register of itself or of another one.
func (s *step) register() {
	switch s.does {
	case dex:
		s.X = s.result(s.X - 1)
	case dey:
		s.Y = s.result(s.Y - 1)
	case inx:
		s.X = s.result(s.X + 1)
	case iny:
		s.Y = s.result(s.Y + 1)
	case tax:
		s.X = s.result(s.A)
	case tay:
		s.Y = s.result(s.A)
	case txa:
		s.A = s.result(s.X)
	case tya:
		s.A = s.result(s.Y)
	case tsx:
		s.X = s.result(s.S)
	case txs:
		s.S = s.X
	}
}

func (s *step) flag() {
	switch s.does {
	case clc:
		s.set(C, false)
	case cli:
		s.set(I, false)
	case clv:
		s.set(V, false)
	case cld:
		s.set(D, false)
	case sec:
		s.set(C, true)
	case sei:
		s.set(I, true)
	case sed:
		s.set(D, true)
	}
}

// stack pushes or pulls one byte.
func (s *step) stack() {
	switch s.does {
	case pha:
		s.push(s.A)
	case php:
		s.pushFlags(B | U)
	case pla:
		s.A = s.result(s.pull())
	case plp:
		s.pullFlags()
	}
}
