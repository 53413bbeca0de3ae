package mos_test

import (
	"strconv"
	"strings"
	"testing"

	"picklock/mos"
)

// The chapter's table: of each mode the instructions, with their opcodes and cycles.
const table = `
implied: BRK 00 7, RTI 40 6, RTS 60 6, PHP 08 3, PLP 28 4, PHA 48 3, PLA 68 4, DEY 88 2, TAY A8 2, INY C8 2, INX E8 2, CLC 18 2, SEC 38 2, CLI 58 2, SEI 78 2, TYA 98 2, CLV B8 2, CLD D8 2, SED F8 2, TXA 8A 2, TXS 9A 2, TAX AA 2, TSX BA 2, DEX CA 2, NOP EA 2
accumulator: ASL 0A 2, ROL 2A 2, LSR 4A 2, ROR 6A 2
immediate: ORA 09 2, AND 29 2, EOR 49 2, ADC 69 2, LDA A9 2, CMP C9 2, SBC E9 2, LDX A2 2, LDY A0 2, CPY C0 2, CPX E0 2
zero page: ORA 05 3, AND 25 3, EOR 45 3, ADC 65 3, STA 85 3, LDA A5 3, CMP C5 3, SBC E5 3, ASL 06 5, ROL 26 5, LSR 46 5, ROR 66 5, STX 86 3, LDX A6 3, DEC C6 5, INC E6 5, BIT 24 3, STY 84 3, LDY A4 3, CPY C4 3, CPX E4 3
zero page, X: ORA 15 4, AND 35 4, EOR 55 4, ADC 75 4, STA 95 4, LDA B5 4, CMP D5 4, SBC F5 4, ASL 16 6, ROL 36 6, LSR 56 6, ROR 76 6, DEC D6 6, INC F6 6, STY 94 4, LDY B4 4
zero page, Y: STX 96 4, LDX B6 4
absolute: ORA 0D 4, AND 2D 4, EOR 4D 4, ADC 6D 4, STA 8D 4, LDA AD 4, CMP CD 4, SBC ED 4, ASL 0E 6, ROL 2E 6, LSR 4E 6, ROR 6E 6, STX 8E 4, LDX AE 4, DEC CE 6, INC EE 6, BIT 2C 4, JMP 4C 3, STY 8C 4, LDY AC 4, CPY CC 4, CPX EC 4, JSR 20 6
absolute, X: ORA 1D 4, AND 3D 4, EOR 5D 4, ADC 7D 4, STA 9D 5, LDA BD 4, CMP DD 4, SBC FD 4, ASL 1E 7, ROL 3E 7, LSR 5E 7, ROR 7E 7, DEC DE 7, INC FE 7, LDY BC 4
absolute, Y: ORA 19 4, AND 39 4, EOR 59 4, ADC 79 4, STA 99 5, LDA B9 4, CMP D9 4, SBC F9 4, LDX BE 4
indirect: JMP 6C 5
indirect of X: ORA 01 6, AND 21 6, EOR 41 6, ADC 61 6, STA 81 6, LDA A1 6, CMP C1 6, SBC E1 6
indirect, Y: ORA 11 5, AND 31 5, EOR 51 5, ADC 71 5, STA 91 6, LDA B1 5, CMP D1 5, SBC F1 5
relative: BPL 10 2, BMI 30 2, BVC 50 2, BVS 70 2, BCC 90 2, BCS B0 2, BNE D0 2, BEQ F0 2`

// entry is what the table tells of an opcode.
type entry struct {
	name, mode string
	cycles     int
}

// entries reads the table.
func entries(t *testing.T) map[byte]entry {
	t.Helper()
	out := map[byte]entry{}
	for _, line := range strings.Split(strings.TrimSpace(table), "\n") {
		mode, all, _ := strings.Cut(line, ": ")
		for _, each := range strings.Split(all, ", ") {
			words := strings.Fields(each)
			opcode := byte(number(t, words[1]))
			if out[opcode].name != "" {
				t.Fatalf("%X stands twice in the table", opcode)
			}
			cycles, err := strconv.Atoi(words[2])
			if err != nil {
				t.Fatal(err)
			}
			out[opcode] = entry{words[0], mode, cycles}
		}
	}
	return out
}

// model is a CPU by the chapter's words, in numbers of which each is reckoned as it is said there.
type model struct {
	a, x, y, s, pc int
	flags          map[string]bool
	halted         bool
	bus            *noting
	cycles         int
}

// worth tells the flags that P has, with what each of them is worth in it.
func worth() map[string]int {
	return map[string]int{"C": 1, "Z": 2, "I": 4, "D": 8, "V": 64, "N": 128}
}

func modelOf(c mos.CPU, bus *noting) *model {
	m := &model{a: int(c.A), x: int(c.X), y: int(c.Y), s: int(c.S), pc: int(c.PC), halted: c.Halted, bus: bus}
	m.unpack(int(c.P))
	return m
}

func (m *model) unpack(p int) {
	m.flags = map[string]bool{}
	for name, w := range worth() {
		m.flags[name] = p/w%2 == 1
	}
}

func (m *model) packed() int {
	p := 0
	for name, w := range worth() {
		if m.flags[name] {
			p += w
		}
	}
	return p
}

func (m *model) cpu() mos.CPU {
	return mos.CPU{A: byte(m.a), X: byte(m.x), Y: byte(m.y), S: byte(m.s), P: byte(m.packed()), PC: uint16(m.pc), Halted: m.halted}
}

func (m *model) read(a int) int { return int(m.bus.Read(uint16(a % 65536))) }
func (m *model) write(a, v int) { m.bus.Write(uint16(a%65536), byte(v)) }
func (m *model) zn(v int) int   { m.flags["Z"], m.flags["N"] = v == 0, v >= 128; return v }
func (m *model) push(v int)     { m.write(256+m.s, v); m.s = (m.s + 255) % 256 }
func (m *model) pull() int      { m.s = (m.s + 1) % 256; return m.read(256 + m.s) }
func (m *model) pushWord(w int) { m.push(w / 256); m.push(w % 256) }
func (m *model) pullWord() int  { low := m.pull(); return low + 256*m.pull() }
func (m *model) operand() int   { v := m.read(m.pc); m.pc = (m.pc + 1) % 65536; return v }
func (m *model) carry() (carry int) {
	if m.flags["C"] {
		return 1
	}
	return 0
}

// words reads the bytes at two addresses as one word.
func (m *model) words(low, high int) int { v := m.read(low); return v + 256*m.read(high) }

// address reads the operand, and tells its address, and whether that is crossed.
func (m *model) address(mode string) (at int, crossed bool) {
	plus := func(word, by int) (int, bool) {
		at := (word + by + 65536) % 65536
		return at, at/256 != word/256
	}
	word := func() int { low := m.operand(); return low + 256*m.operand() }
	switch mode {
	case "immediate":
		at = m.pc
		m.pc = (m.pc + 1) % 65536
		return at, false
	case "zero page":
		return m.operand(), false
	case "zero page, X":
		return (m.operand() + m.x) % 256, false
	case "zero page, Y":
		return (m.operand() + m.y) % 256, false
	case "absolute":
		return word(), false
	case "absolute, X":
		return plus(word(), m.x)
	case "absolute, Y":
		return plus(word(), m.y)
	case "indirect":
		w := word()
		return m.words(w, w/256*256+(w+1)%256), false
	case "indirect of X":
		n := (m.operand() + m.x) % 256
		return m.words(n, (n+1)%256), false
	case "indirect, Y":
		n := m.operand()
		return plus(m.words(n, (n+1)%256), m.y)
	case "relative":
		by := m.operand()
		if by >= 128 {
			by -= 256
		}
		return plus(m.pc, by)
	}
	return 0, false
}

// step does one instruction.
func (m *model) step(all map[byte]entry) {
	m.cycles = 0
	if m.halted {
		return
	}
	e, known := all[byte(m.read(m.pc))]
	if !known {
		m.halted = true
		return
	}
	m.pc = (m.pc + 1) % 65536
	m.cycles = e.cycles
	at, crossed := m.address(e.mode)
	if strings.Contains("ORA AND EOR ADC LDA CMP SBC LDX LDY", e.name) && crossed {
		m.cycles++
	}
	if e.mode == "relative" {
		m.branch(e.name, at, crossed)
	} else if e.mode == "accumulator" {
		m.a = m.changed(e.name, m.a)
	} else if !m.byMemory(e.name, at) && !m.byRegister(e.name) {
		m.elsewhere(e.name, at)
	}
}

func (m *model) branch(name string, at int, crossed bool) {
	flag := map[byte]string{'P': "N", 'M': "N", 'V': "V", 'C': "C", 'N': "Z", 'E': "Z"}[name[1]]
	asked := name == "BMI" || name == "BVS" || name == "BCS" || name == "BEQ"
	if name == "BVC" || name == "BVS" {
		flag = "V"
	}
	if m.flags[flag] != asked {
		return
	}
	m.pc = at
	m.cycles++
	if crossed {
		m.cycles++
	}
}

// sum does ADC of v, which SBC does of what is turned.
func (m *model) sum(v int) {
	sign := func(v int) int { return v - v/128*256 }
	s, r := sign(m.a)+sign(v)+m.carry(), m.a+v+m.carry()
	m.flags["V"] = s < -128 || s > 127
	m.flags["C"] = r > 255
	m.a = m.zn(r % 256)
}

func (m *model) compare(register, v int) {
	m.flags["C"] = register >= v
	m.zn((register - v + 256) % 256)
}

func (m *model) changed(name string, v int) int {
	carry := 0
	if name == "ROL" || name == "ROR" {
		carry = m.carry()
	}
	switch name {
	case "ASL", "ROL":
		m.flags["C"] = v >= 128
		return m.zn(v*2%256 + carry)
	case "LSR", "ROR":
		m.flags["C"] = v%2 == 1
		return m.zn(v/2 + 128*carry)
	case "DEC":
		return m.zn((v + 255) % 256)
	}
	return m.zn((v + 1) % 256)
}

// byMemory does what reads or writes the byte at the address, if it is that.
func (m *model) byMemory(name string, at int) bool {
	switch name {
	case "LDA":
		m.a = m.zn(m.read(at))
	case "LDX":
		m.x = m.zn(m.read(at))
	case "LDY":
		m.y = m.zn(m.read(at))
	case "STA":
		m.write(at, m.a)
	case "STX":
		m.write(at, m.x)
	case "STY":
		m.write(at, m.y)
	case "ORA":
		m.a = m.zn(m.a | m.read(at))
	case "AND":
		m.a = m.zn(m.a & m.read(at))
	case "EOR":
		m.a = m.zn(m.a ^ m.read(at))
	case "ADC":
		m.sum(m.read(at))
	case "SBC":
		m.sum(255 - m.read(at))
	case "CMP":
		m.compare(m.a, m.read(at))
	case "CPX":
		m.compare(m.x, m.read(at))
	case "CPY":
		m.compare(m.y, m.read(at))
	case "BIT":
		v := m.read(at)
		m.flags["Z"], m.flags["N"], m.flags["V"] = m.a&v == 0, v/128 == 1, v/64%2 == 1
	case "ASL", "ROL", "LSR", "ROR", "DEC", "INC":
		m.write(at, m.changed(name, m.read(at)))
	default:
		return false
	}
	return true
}

// byRegister does what registers and flags alone are changed by, if it is that.
func (m *model) byRegister(name string) bool {
	switch name {
	case "TAX":
		m.x = m.zn(m.a)
	case "TAY":
		m.y = m.zn(m.a)
	case "TXA":
		m.a = m.zn(m.x)
	case "TYA":
		m.a = m.zn(m.y)
	case "TSX":
		m.x = m.zn(m.s)
	case "TXS":
		m.s = m.x
	case "INX":
		m.x = m.zn((m.x + 1) % 256)
	case "INY":
		m.y = m.zn((m.y + 1) % 256)
	case "DEX":
		m.x = m.zn((m.x + 255) % 256)
	case "DEY":
		m.y = m.zn((m.y + 255) % 256)
	case "CLC", "CLI", "CLV", "CLD":
		m.flags[name[2:]] = false
	case "SEC", "SEI", "SED":
		m.flags[name[2:]] = true
	case "NOP":
	default:
		return false
	}
	return true
}

// elsewhere does what pushes, pulls, or goes on somewhere else.
func (m *model) elsewhere(name string, at int) {
	switch name {
	case "JMP":
		m.pc = at
	case "JSR":
		m.pushWord((m.pc + 65535) % 65536)
		m.pc = at
	case "RTS":
		m.pc = (m.pullWord() + 1) % 65536
	case "PHA":
		m.push(m.a)
	case "PHP":
		m.push(m.packed() + 16 + 32)
	case "PLA":
		m.a = m.zn(m.pull())
	case "PLP":
		m.unpack(m.pull())
	case "RTI":
		m.unpack(m.pull())
		m.pc = m.pullWord()
	case "BRK":
		m.pushWord((m.pc + 1) % 65536)
		m.push(m.packed() + 16 + 32)
		m.flags["I"] = true
		m.pc = m.words(0xFFFE, 0xFFFF)
	}
}

// underOf tells bytes for all addresses, which hang on the seed alone.
func underOf(seed int) func(a uint16) byte {
	return func(a uint16) byte { return byte((uint32(a)*2654435761 + uint32(seed)*40503 + 12345) >> 13) }
}

// N2: of each opcode, whatever the registers and the memory are: the registers behind it, its cycles, and all that is read and written.
func TestModel(t *testing.T) {
	all := entries(t)
	isSame(t, "opcodes", len(all), 151)
	for opcode := range 256 {
		for seed := range 1000 {
			c := chanceCPU(opcode*1000 + seed)
			set := func() *noting {
				return &noting{m: map[uint16]byte{c.PC: byte(opcode)}, under: underOf(seed)}
			}
			bus := set()
			m := modelOf(c, set())
			m.step(all)
			got := c
			cycles := got.Step(bus)
			if got != m.cpu() || cycles != m.cycles || told(bus.seen) != told(m.bus.seen) {
				t.Fatalf("%X, %+v:\n%+v, %d, %s, want\n%+v, %d, %s", opcode, c, got, cycles, told(bus.seen), m.cpu(), m.cycles, told(m.bus.seen))
			}
		}
	}
}
