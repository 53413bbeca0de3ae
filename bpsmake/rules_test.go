package bpsmake_test

import (
	"bytes"
	"testing"
)

// R1: nothing that was handed in is changed or kept, and the patch is the caller's. R4: of the same the same.
func TestOwn(t *testing.T) {
	a, b, meta := []byte("some bytes, xxxxxxxxxxxxxxxxxxxxxxx, and more of them"), []byte("and more bits, yyyyyyyyyyyyyyyyyyyyyyyy, and more of them, some bytes"), []byte("a meta")
	wasA, wasB, wasMeta := bytes.Clone(a), bytes.Clone(b), bytes.Clone(meta)
	unchanged := func() bool {
		return bytes.Equal(a, wasA) && bytes.Equal(b, wasB) && bytes.Equal(meta, wasMeta)
	}
	p, _ := holds(t, a, b, meta)
	was := bytes.Clone(p)
	if !unchanged() {
		t.Error("what was handed in is changed")
	}
	q := created(t, a, b, meta)
	if !bytes.Equal(q, was) {
		t.Error("of the same another patch")
	}
	clear(p)
	if !bytes.Equal(q, was) || !unchanged() {
		t.Error("a patch that is written over changes others")
	}
	clear(a)
	clear(b)
	clear(meta)
	if !bytes.Equal(q, was) {
		t.Error("the patch shares bytes with what was handed in")
	}
	if !bytes.Equal(created(t, wasA, wasB, wasMeta), was) {
		t.Error("of the same another patch, later")
	}
}

// R1: bytes that lie behind those that were handed in are not touched, and not looked at.
func TestBehind(t *testing.T) {
	a, b := chance(1, 300, 0, 3), chance(1, 400, 0, 3)
	wasA, wasB := bytes.Clone(a), bytes.Clone(b)
	for from := 0; from < 100; from += 7 {
		for n := 0; n < 100; n += 9 {
			p, _ := holds(t, a[from:from+n], b[n:n+from], a[n:n+5])
			q, _ := holds(t, bytes.Clone(a[from:from+n]), bytes.Clone(b[n:n+from]), bytes.Clone(a[n:n+5]))
			if !bytes.Equal(p, q) {
				t.Error("of the same another patch")
			}
		}
	}
	if !bytes.Equal(a, wasA) || !bytes.Equal(b, wasB) {
		t.Error("bytes are changed")
	}
}

// R1: all that is handed in may lie in the same bytes.
func TestSameMemory(t *testing.T) {
	x := chance(4, 5000, 0, 256)
	was := bytes.Clone(x)
	atMost(t, 40, x, x, x)
	holds(t, x, x[100:], x[:200])
	holds(t, x[100:], x, x[4000:])
	holds(t, x[:3000], x[1000:], nil)
	if !bytes.Equal(x, was) {
		t.Error("bytes are changed")
	}
}

// R4: of the same the same, again and again, whatever was made between.
func TestAgain(t *testing.T) {
	for _, kinds := range []int{1, 2, 4, 256} {
		a, b := chance(1, 3000, 0, kinds), join(chance(2, 1000, 0, kinds), chance(1, 2000, 0, kinds))
		p := created(t, a, b, []byte("meta"))
		for i := range 20 {
			created(t, chance(i, 2000, 0, kinds+1), a, nil)
			if q := created(t, a, b, []byte("meta")); !bytes.Equal(p, q) {
				t.Errorf("%d kinds: of the same another patch", kinds)
			}
		}
	}
}
