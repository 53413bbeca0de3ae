package mos_test

import (
	"testing"

	"picklock/api"
	"picklock/mos"
)

// N1: the flags are worth what the chapter says.
func TestFlags(t *testing.T) {
	isSame(t, "the flags", [...]int{mos.C, mos.Z, mos.I, mos.D, mos.B, mos.U, mos.V, mos.N}, [...]int{1, 2, 4, 8, 16, 32, 64, 128})
}

// N1: the registers are bytes, PC two of them, and can be compared.
func TestRegisters(t *testing.T) {
	c := mos.CPU{A: 1, X: 2, Y: 3, S: 4, P: 5, PC: 65535, Halted: true}
	d := c
	isSame(t, "a copy", c, d)
	d.PC++
	isSame(t, "PC behind 65535", d.PC, 0)
	if c == d {
		t.Error("two that differ are the same")
	}
}

// N1: a flat bus is a bus, has a byte at each address, 0 at first, and tells it.
func TestFlatRead(t *testing.T) {
	f := &mos.Flat{}
	var bus mos.Bus = f
	for a := range 65536 {
		if bus.Read(uint16(a)) != 0 {
			t.Fatalf("%X: %d at first", a, bus.Read(uint16(a)))
		}
		f.M[a] = byte(a*7 + a/256)
	}
	for a := range 65536 {
		if v := bus.Read(uint16(a)); v != byte(a*7+a/256) {
			t.Fatalf("%X: %d", a, v)
		}
	}
	isSame(t, "what is noted of reading", len(f.W), 0)
}

// N1: Write sets the byte that is at the address, and no other one.
func TestFlatWrite(t *testing.T) {
	f := &mos.Flat{}
	want := [65536]byte{}
	for _, a := range []uint16{0, 1, 0xFF, 0x100, 0x1234, 0x7FFF, 0x8000, 0xFFFE, 0xFFFF} {
		f.Write(a, byte(a)+9)
		want[a] = byte(a) + 9
		isSame(t, hex(int(a)), f.Read(a), byte(a)+9)
	}
	if f.M != want {
		t.Error("another byte was set, too")
	}
}

// N1: Write notes what is written last in W, in order, also where the byte was that before.
func TestFlatNotes(t *testing.T) {
	f := &mos.Flat{}
	f.Write(5, 9)
	f.Write(5, 9)
	f.Write(65535, 0)
	f.Write(5, 8)
	isList(t, "W", f.W, []api.Poke{{A: 5, V: 9}, {A: 5, V: 9}, {A: 65535, V: 0}, {A: 5, V: 8}})
	f.W = nil
	f.Write(1, 2)
	isList(t, "W anew", f.W, []api.Poke{{A: 1, V: 2}})
}

// N1, N2: a step reads and writes a flat bus, which notes what is written.
func TestFlatStep(t *testing.T) {
	f := &mos.Flat{}
	copy(f.M[0x200:], []byte{0xE6, 0x40, 0x08, 0x28})
	f.M[0x40] = 0xFF
	c := mos.CPU{PC: 0x200, S: 0xFF}
	isSame(t, "cycles", c.Step(f)+c.Step(f)+c.Step(f), 5+3+4)
	isSame(t, "CPU", c, mos.CPU{PC: 0x204, S: 0xFF, P: mos.Z})
	isList(t, "W", f.W, []api.Poke{{A: 0x40, V: 0}, {A: 0x1FF, V: 0x32}})
}
