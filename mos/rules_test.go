package mos_test

import (
	"slices"
	"testing"

	"picklock/api"
	"picklock/mos"
)

// run does a program that hangs on the seed alone, and tells the CPU behind each step, with its cycles, and what was written.
func run(seed int) (cpus []mos.CPU, cycles []int, written []api.Poke) {
	f, c := machine(seed)
	for range 500 {
		cycles = append(cycles, turn(c, f))
		cpus = append(cpus, *c)
	}
	return cpus, cycles, f.W
}

// machine makes a CPU and a bus that hang on the seed alone.
func machine(seed int) (*mos.Flat, *mos.CPU) {
	f, c := &mos.Flat{}, &mos.CPU{}
	copy(f.M[:], chance(seed, len(f.M)))
	c.Reset(f)
	return f, c
}

// turn does a step, and goes past what halts by an interrupt.
func turn(c *mos.CPU, f *mos.Flat) int {
	if c.Halted {
		c.Halted = false
		return c.Interrupt(f, c.PC)
	}
	return c.Step(f)
}

// R3: two CPUs with a bus each have nothing to do with each other, whichever is called when.
func TestApart(t *testing.T) {
	first, firstCycles, firstWritten := run(1)
	second, secondCycles, secondWritten := run(2)
	f, c := machine(1)
	g, d := machine(2)
	for n := range first {
		if cycles := turn(c, f); *c != first[n] || cycles != firstCycles[n] {
			t.Fatalf("step %d of the first: %+v, %d, want %+v, %d", n, *c, cycles, first[n], firstCycles[n])
		}
		if cycles := turn(d, g); *d != second[n] || cycles != secondCycles[n] {
			t.Fatalf("step %d of the second: %+v, %d, want %+v, %d", n, *d, cycles, second[n], secondCycles[n])
		}
	}
	isList(t, "what the first wrote", f.W, firstWritten)
	isList(t, "what the second wrote", g.W, secondWritten)
}

// R3: one CPU may go on with another bus, of which it has kept nothing.
func TestAnotherBus(t *testing.T) {
	f, g := memory(t, "200: A9 1 85 40"), memory(t, "200: A9 1 85 50")
	c := mos.CPU{PC: 0x200}
	c.Step(f)
	c.Step(g)
	isSame(t, "seen by the first", told(f.seen), "200 201")
	isSame(t, "seen by the second", told(g.seen), "202 203 50=1")
}

// R1: a copy of a CPU is one of its own.
func TestCopies(t *testing.T) {
	f, c := machine(3)
	d := *c
	c.Step(f)
	isSame(t, "a copy", d, mos.CPU{S: 0xFD, P: mos.I, PC: d.PC})
	if *c == d {
		t.Error("a step of the one was one of the other, too")
	}
}

// R4: of the same the same is told.
func TestAgain(t *testing.T) {
	for seed := range 20 {
		cpus, cycles, written := run(seed)
		again, cyclesAgain, writtenAgain := run(seed)
		if !slices.Equal(cpus, again) || !slices.Equal(cycles, cyclesAgain) || !slices.Equal(written, writtenAgain) {
			t.Errorf("seed %d: something else the second time", seed)
		}
	}
}
