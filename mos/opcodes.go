package mos

import "sort"

// What an instruction does, as it stands in the table of opcodes.
const (
	ora = iota << 8
	and
	eor
	adc
	sbc
	cmp
	cpx
	cpy
	bit
	lda
	ldx
	ldy
	sta
	stx
	sty
	asl
	rol
	lsr
	ror
	dec
	inc
	dex
	dey
	inx
	iny
	tax
	tay
	txa
	tya
	tsx
	txs
	bpl
	bmi
	bvc
	bvs
	bcc
	bcs
	bne
	beq
	clc
	cli
	clv
	cld
	sec
	sei
	sed
	nop
	jmp
	jsr
	rts
	pha
	php
	pla
	plp
	rti
	brk
)

// The modes: how the operand gives an address, as it stands in the table of opcodes.
const (
	implied = iota << 4
	accumulator
	immediate
	zeroPage
	zeroPageX
	zeroPageY
	absolute
	absoluteX
	absoluteY
	indirect
	indirectOfX
	indirectY
	relative
)

// Where the parts of a row lie.
const (
	opcodePlace = 16
	doesPart    = 0xFF00
	modePart    = 0x00F0
	cyclesPart  = 0x000F
)

// opcodes has a row for each opcode: the opcode, what it does, its mode, and its cycles, but those that hang on the address. They stand in order, so that one is found by halving.
var opcodes = [...]uint32{
	0x00<<16 | brk | implied | 7,
	0x01<<16 | ora | indirectOfX | 6,
	0x05<<16 | ora | zeroPage | 3,
	0x06<<16 | asl | zeroPage | 5,
	0x08<<16 | php | implied | 3,
	0x09<<16 | ora | immediate | 2,
	0x0A<<16 | asl | accumulator | 2,
	0x0D<<16 | ora | absolute | 4,
	0x0E<<16 | asl | absolute | 6,
	0x10<<16 | bpl | relative | 2,
	0x11<<16 | ora | indirectY | 5,
	0x15<<16 | ora | zeroPageX | 4,
	0x16<<16 | asl | zeroPageX | 6,
	0x18<<16 | clc | implied | 2,
	0x19<<16 | ora | absoluteY | 4,
	0x1D<<16 | ora | absoluteX | 4,
	0x1E<<16 | asl | absoluteX | 7,
	0x20<<16 | jsr | absolute | 6,
	0x21<<16 | and | indirectOfX | 6,
	0x24<<16 | bit | zeroPage | 3,
	0x25<<16 | and | zeroPage | 3,
	0x26<<16 | rol | zeroPage | 5,
	0x28<<16 | plp | implied | 4,
	0x29<<16 | and | immediate | 2,
	0x2A<<16 | rol | accumulator | 2,
	0x2C<<16 | bit | absolute | 4,
	0x2D<<16 | and | absolute | 4,
	0x2E<<16 | rol | absolute | 6,
	0x30<<16 | bmi | relative | 2,
	0x31<<16 | and | indirectY | 5,
	0x35<<16 | and | zeroPageX | 4,
	0x36<<16 | rol | zeroPageX | 6,
	0x38<<16 | sec | implied | 2,
	0x39<<16 | and | absoluteY | 4,
	0x3D<<16 | and | absoluteX | 4,
	0x3E<<16 | rol | absoluteX | 7,
	0x40<<16 | rti | implied | 6,
	0x41<<16 | eor | indirectOfX | 6,
	0x45<<16 | eor | zeroPage | 3,
	0x46<<16 | lsr | zeroPage | 5,
	0x48<<16 | pha | implied | 3,
	0x49<<16 | eor | immediate | 2,
	0x4A<<16 | lsr | accumulator | 2,
	0x4C<<16 | jmp | absolute | 3,
	0x4D<<16 | eor | absolute | 4,
	0x4E<<16 | lsr | absolute | 6,
	0x50<<16 | bvc | relative | 2,
	0x51<<16 | eor | indirectY | 5,
	0x55<<16 | eor | zeroPageX | 4,
	0x56<<16 | lsr | zeroPageX | 6,
	0x58<<16 | cli | implied | 2,
	0x59<<16 | eor | absoluteY | 4,
	0x5D<<16 | eor | absoluteX | 4,
	0x5E<<16 | lsr | absoluteX | 7,
	0x60<<16 | rts | implied | 6,
	0x61<<16 | adc | indirectOfX | 6,
	0x65<<16 | adc | zeroPage | 3,
	0x66<<16 | ror | zeroPage | 5,
	0x68<<16 | pla | implied | 4,
	0x69<<16 | adc | immediate | 2,
	0x6A<<16 | ror | accumulator | 2,
	0x6C<<16 | jmp | indirect | 5,
	0x6D<<16 | adc | absolute | 4,
	0x6E<<16 | ror | absolute | 6,
	0x70<<16 | bvs | relative | 2,
	0x71<<16 | adc | indirectY | 5,
	0x75<<16 | adc | zeroPageX | 4,
	0x76<<16 | ror | zeroPageX | 6,
	0x78<<16 | sei | implied | 2,
	0x79<<16 | adc | absoluteY | 4,
	0x7D<<16 | adc | absoluteX | 4,
	0x7E<<16 | ror | absoluteX | 7,
	0x81<<16 | sta | indirectOfX | 6,
	0x84<<16 | sty | zeroPage | 3,
	0x85<<16 | sta | zeroPage | 3,
	0x86<<16 | stx | zeroPage | 3,
	0x88<<16 | dey | implied | 2,
	0x8A<<16 | txa | implied | 2,
	0x8C<<16 | sty | absolute | 4,
	0x8D<<16 | sta | absolute | 4,
	0x8E<<16 | stx | absolute | 4,
	0x90<<16 | bcc | relative | 2,
	0x91<<16 | sta | indirectY | 6,
	0x94<<16 | sty | zeroPageX | 4,
	0x95<<16 | sta | zeroPageX | 4,
	0x96<<16 | stx | zeroPageY | 4,
	0x98<<16 | tya | implied | 2,
	0x99<<16 | sta | absoluteY | 5,
	0x9A<<16 | txs | implied | 2,
	0x9D<<16 | sta | absoluteX | 5,
	0xA0<<16 | ldy | immediate | 2,
	0xA1<<16 | lda | indirectOfX | 6,
	0xA2<<16 | ldx | immediate | 2,
	0xA4<<16 | ldy | zeroPage | 3,
	0xA5<<16 | lda | zeroPage | 3,
	0xA6<<16 | ldx | zeroPage | 3,
	0xA8<<16 | tay | implied | 2,
	0xA9<<16 | lda | immediate | 2,
	0xAA<<16 | tax | implied | 2,
	0xAC<<16 | ldy | absolute | 4,
	0xAD<<16 | lda | absolute | 4,
	0xAE<<16 | ldx | absolute | 4,
	0xB0<<16 | bcs | relative | 2,
	0xB1<<16 | lda | indirectY | 5,
	0xB4<<16 | ldy | zeroPageX | 4,
	0xB5<<16 | lda | zeroPageX | 4,
	0xB6<<16 | ldx | zeroPageY | 4,
	0xB8<<16 | clv | implied | 2,
	0xB9<<16 | lda | absoluteY | 4,
	0xBA<<16 | tsx | implied | 2,
	0xBC<<16 | ldy | absoluteX | 4,
	0xBD<<16 | lda | absoluteX | 4,
	0xBE<<16 | ldx | absoluteY | 4,
	0xC0<<16 | cpy | immediate | 2,
	0xC1<<16 | cmp | indirectOfX | 6,
	0xC4<<16 | cpy | zeroPage | 3,
	0xC5<<16 | cmp | zeroPage | 3,
	0xC6<<16 | dec | zeroPage | 5,
	0xC8<<16 | iny | implied | 2,
	0xC9<<16 | cmp | immediate | 2,
	0xCA<<16 | dex | implied | 2,
	0xCC<<16 | cpy | absolute | 4,
	0xCD<<16 | cmp | absolute | 4,
	0xCE<<16 | dec | absolute | 6,
	0xD0<<16 | bne | relative | 2,
	0xD1<<16 | cmp | indirectY | 5,
	0xD5<<16 | cmp | zeroPageX | 4,
	0xD6<<16 | dec | zeroPageX | 6,
	0xD8<<16 | cld | implied | 2,
	0xD9<<16 | cmp | absoluteY | 4,
	0xDD<<16 | cmp | absoluteX | 4,
	0xDE<<16 | dec | absoluteX | 7,
	0xE0<<16 | cpx | immediate | 2,
	0xE1<<16 | sbc | indirectOfX | 6,
	0xE4<<16 | cpx | zeroPage | 3,
	0xE5<<16 | sbc | zeroPage | 3,
	0xE6<<16 | inc | zeroPage | 5,
	0xE8<<16 | inx | implied | 2,
	0xE9<<16 | sbc | immediate | 2,
	0xEA<<16 | nop | implied | 2,
	0xEC<<16 | cpx | absolute | 4,
	0xED<<16 | sbc | absolute | 4,
	0xEE<<16 | inc | absolute | 6,
	0xF0<<16 | beq | relative | 2,
	0xF1<<16 | sbc | indirectY | 5,
	0xF5<<16 | sbc | zeroPageX | 4,
	0xF6<<16 | inc | zeroPageX | 6,
	0xF8<<16 | sed | implied | 2,
	0xF9<<16 | sbc | absoluteY | 4,
	0xFD<<16 | sbc | absoluteX | 4,
	0xFE<<16 | inc | absoluteX | 7,
}

// row is what the table tells of one opcode.
type row struct {
	does, mode uint32
	cycles     int
}

// rowOf looks an opcode up, and tells whether it stands in the table.
func rowOf(opcode byte) (r row, known bool) {
	at := sort.Search(len(opcodes), func(i int) bool { return opcodes[i]>>opcodePlace >= uint32(opcode) })
	if at == len(opcodes) || opcodes[at]>>opcodePlace != uint32(opcode) {
		return row{}, false
	}
	word := opcodes[at]
	return row{does: word & doesPart, mode: word & modePart, cycles: int(word & cyclesPart)}, true
}
