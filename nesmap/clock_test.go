package nesmap_test

import (
	"testing"

	"picklock/nesmap"
)

// asksAt is for a map that asks for an interrupt with just the n-th Clock from here on.
func asksAt(t *testing.T, m *nesmap.Map, n int) {
	t.Helper()
	for i := 1; i <= n; i++ {
		if m.IRQ() {
			t.Errorf("asks with Clock %d instead of %d", i-1, n)
			return
		}
		m.Clock()
	}
	if !m.IRQ() {
		t.Errorf("does not ask with Clock %d", n)
	}
}

// asksNever is for a map that asks for none with so many Clocks.
func asksNever(t *testing.T, m *nesmap.Map, n int) {
	t.Helper()
	for i := range n {
		if m.IRQ() {
			t.Errorf("asks with Clock %d", i)
			return
		}
		m.Clock()
	}
	if m.IRQ() {
		t.Errorf("asks with Clock %d", n)
	}
}

// latched makes a map of Mapper 4 that has a LATCH, and is allowed interrupts.
func latched(t *testing.T, latch byte) *nesmap.Map {
	t.Helper()
	m := made(t, 4, 2, 1)
	m.Write(0xC000, latch)
	m.Write(0xE001, 0)
	return m
}

// again takes back what was asked for, and allows it anew.
func again(m *nesmap.Map) {
	m.Write(0xE000, 0)
	m.Write(0xE001, 0)
}

// K2: a counter that is 0 is LATCH with a Clock, and one less with each other; at 0 an interrupt is asked for: each LATCH, twice round.
func TestClockLatch(t *testing.T) {
	for latch := range 256 {
		m := latched(t, byte(latch))
		for range 3 {
			asksAt(t, m, latch+1)
			again(m)
		}
	}
}

// K2: a LATCH of 0 asks with each Clock.
func TestClockNought(t *testing.T) {
	m := latched(t, 0)
	for range 5 {
		asksAt(t, m, 1)
		again(m)
	}
}

// K2: at first LATCH is 0, too.
func TestClockFirst(t *testing.T) {
	m := made(t, 4, 2, 1)
	m.Write(0xE001, 0)
	asksAt(t, m, 1)
	m = made(t, 4, 2, 1)
	asksNever(t, m, 3)
	m.Write(0xE001, 0)
	asksAt(t, m, 1)
}

// K2: LATCH is any v, by each even address of C000 to DFFF, and the last one that was written.
func TestLatchAddresses(t *testing.T) {
	for a := 0xC000; a < 0xE000; a += 2 {
		m := latched(t, 9)
		m.Write(uint16(a), 77)
		m.Write(uint16(a), 2)
		asksAt(t, m, 3)
	}
}

// K2: a LATCH that is written leaves the counter as it is: it counts from the next time on that it is loaded.
func TestLatchLater(t *testing.T) {
	m := latched(t, 5)
	m.Clock()
	m.Clock()
	m.Write(0xC000, 1)
	asksAt(t, m, 4)
	again(m)
	asksAt(t, m, 2)
	again(m)
	m.Write(0xC000, 0xFF)
	asksAt(t, m, 256)
}

// K2: an odd write of C000 to DFFF makes the counter 0, and it is loaded with the next Clock, whatever it was, and is not loaded again with the one behind.
func TestReload(t *testing.T) {
	for clocks := range 7 {
		for _, a := range []uint16{0xC001, 0xC003, 0xCFFF, 0xD001, 0xDFFD, 0xDFFF} {
			for _, v := range []byte{0, 1, 0xFF} {
				m := latched(t, 6)
				for range clocks {
					m.Clock()
				}
				m.Write(a, v)
				asksAt(t, m, 7)
				again(m)
				asksAt(t, m, 7)
			}
		}
	}
}

// K2: it is loaded with the LATCH that there is then; a LATCH that is written behind it counts, too.
func TestReloadLatch(t *testing.T) {
	m := latched(t, 6)
	m.Clock()
	m.Write(0xC001, 0)
	m.Write(0xC000, 2)
	asksAt(t, m, 3)
	again(m)
	m.Clock()
	m.Write(0xC000, 4)
	m.Write(0xC001, 0)
	asksAt(t, m, 5)
}

// K2: an odd write makes the counter 0, but asks for nothing by itself, and takes nothing back.
func TestReloadAsks(t *testing.T) {
	m := latched(t, 2)
	m.Clock()
	m.Write(0xC001, 0)
	if m.IRQ() {
		t.Error("asks without a Clock")
	}
	m = latched(t, 1)
	asksAt(t, m, 2)
	m.Write(0xC001, 0)
	m.Write(0xC000, 9)
	if !m.IRQ() {
		t.Error("is taken back")
	}
}

// K2: again and again loaded ahead of 0, it asks for none.
func TestReloadAlways(t *testing.T) {
	m := latched(t, 3)
	for range 20 {
		asksNever(t, m, 3)
		m.Write(0xC001, 0)
	}
}

// K2: if interrupts are not allowed, none is asked for at 0; the counter counts all the same.
func TestClockForbidden(t *testing.T) {
	m := made(t, 4, 2, 1)
	m.Write(0xC000, 3)
	asksNever(t, m, 4)
	// The counter is 0: what is allowed now asks the next time that it is.
	m.Write(0xE001, 0)
	asksAt(t, m, 4)
	m.Write(0xE000, 0)
	asksNever(t, m, 2)
	m.Write(0xE001, 0)
	asksAt(t, m, 2)
	m.Write(0xE000, 0)
	asksNever(t, m, 100)
}

// K2: to allow interrupts asks for none, even while the counter is 0.
func TestAllowAsks(t *testing.T) {
	m := made(t, 4, 2, 1)
	m.Write(0xC000, 1)
	m.Write(0xE001, 0)
	if m.IRQ() {
		t.Error("asks without a Clock")
	}
	asksAt(t, m, 2)
}

// K2: one that was asked for is still asked for by other Clocks, and by whatever else but an even write of E000 to FFFF.
func TestAsked(t *testing.T) {
	m := latched(t, 4)
	asksAt(t, m, 5)
	for range 300 {
		m.Clock()
		if !m.IRQ() || !m.IRQ() {
			t.Fatal("is not asked for any more")
		}
	}
	for _, a := range []uint16{0, 0x6000, 0x7FFE, 0x7FFF, 0x8000, 0x8001, 0x9FFE, 0xA000, 0xA001, 0xBFFE, 0xC000, 0xC001, 0xDFFE, 0xDFFF, 0xE001, 0xE003, 0xF001, 0xFFFD, 0xFFFF} {
		for _, v := range []byte{0, 1, 0x80, 0xFF} {
			m.Write(a, v)
			if !m.IRQ() {
				t.Errorf("%X: is not asked for any more", a)
			}
		}
	}
	m.Write(0xE000, 0xFF)
	if m.IRQ() {
		t.Error("is still asked for")
	}
}

// K2: an even write of E000 to FFFF takes back what was asked for, and allows none, until an odd one does; its v does not count.
func TestTakenBack(t *testing.T) {
	for a := 0xE000; a < 0x10000; a += 2 {
		m := latched(t, 1)
		asksAt(t, m, 2)
		m.Write(uint16(a), byte(a>>1))
		asksNever(t, m, 6)
		m.Write(uint16(a+1), byte(a>>1))
		asksAt(t, m, 2)
		m.Write(uint16(a+1), 0)
		if !m.IRQ() {
			t.Fatalf("%X: an odd write takes back what was asked for", a+1)
		}
	}
}

// K2: an even write of E000 to FFFF leaves the counter and LATCH as they are.
func TestTakenBackCounter(t *testing.T) {
	m := latched(t, 5)
	m.Clock()
	m.Clock()
	m.Write(0xE000, 9)
	m.Write(0xE001, 9)
	asksAt(t, m, 4)
	again(m)
	asksAt(t, m, 6)
}

// K2: a Clock changes nothing else, and a counter has nothing to do with pages and units.
func TestClockElse(t *testing.T) {
	m := countingMap(t)
	m.Write(0xC000, 1)
	m.Write(0xC001, 0)
	m.Write(0xE001, 0)
	want := countingLook
	looks(t, m, want)
	m.Clock()
	looks(t, m, want)
	m.Clock()
	want.irq = true
	looks(t, m, want)
	m.Write(0xFFFE, 0)
	looks(t, m, countingLook)
}

// K2: of Mappers 0 to 3 Clock does nothing, and IRQ is false, whatever was written.
func TestClockOthers(t *testing.T) {
	for mapper := range 4 {
		m := made(t, mapper, 7, 7)
		for _, a := range []uint16{0xC000, 0xC001, 0xE001, 0xE001, 0x8001, 0xFFFF} {
			for _, v := range []byte{0, 1, 0, 1, 1, 3} {
				m.Write(a, v)
			}
			was := lookAt(t, m)
			was.irq = false
			for range 300 {
				m.Clock()
				if m.IRQ() {
					t.Fatalf("mapper %d: asks", mapper)
				}
			}
			looks(t, m, was)
		}
	}
}

// K2: a Clock between the writes of Mapper 1's number has no part in it.
func TestClockSerial(t *testing.T) {
	m := made(t, 1, 16, 1)
	for _, v := range []byte{1, 0, 1, 0, 0} {
		m.Clock()
		m.Write(prgAt, v)
		m.Clock()
	}
	hasPages(t, m, pages{10, 11, 30, 31})
}
