package bpsmake

// key is four bytes that follow each other.
type key [4]byte

const (
	// keyBytes is how many bytes a key has.
	keyBytes = len(key{})
	// parts is how many parts the keys are parted into: a map of all keys of long texts would be slow.
	parts = 16
)

// keyOf expects at least as many bytes as a key has.
func keyOf(b []byte) key { return key{b[0], b[1], b[2], b[3]} }

// side is which of both texts a copy is taken from.
type side int

const (
	input side = iota
	output
	sides
)

// index has chains of places at which the same four bytes stand, from the last place to the first one. For each place of b, first tells where its chain in a text begins; in b itself this is ahead of it. For each place of a text, before tells the next one of its chain. Places are counted from 1 there, so that 0 is none.
type index struct {
	text          [sides][]byte
	first, before [sides][]int32
}

func newIndex(a, b []byte) *index {
	withinA, withinB, fromBToA := make([]int32, len(a)), make([]int32, len(b)), make([]int32, len(b))
	x := &index{
		text:   [sides][]byte{input: a, output: b},
		first:  [sides][]int32{input: fromBToA, output: withinB},
		before: [sides][]int32{input: withinA, output: withinB},
	}
	last := map[key][sides]int32{}
	for part := range parts {
		clear(last)
		x.link(part, last)
	}
	return x
}

// link links the places whose keys are of a part; last has where each key stood last.
func (x *index) link(part int, last map[key][sides]int32) {
	for s, text := range x.text {
		for at := 0; at+keyBytes <= len(text); at++ {
			if int(text[at])%parts != part {
				continue
			}
			k := keyOf(text[at:])
			stood := last[k]
			if side(s) == output {
				x.first[input][at] = stood[input]
			}
			x.before[s][at] = stood[s]
			stood[s] = int32(at) + 1
			last[k] = stood
		}
	}
}

// longest tells the place of a text from which on most bytes are the same as from a place of b on, and how many are; it looks at some places of the chain alone.
func (x *index) longest(s side, at, looks int) (place, n int) {
	wanted := x.text[output][at:]
	next := int(x.first[s][at])
places:
	for ; next > 0 && looks > 0; next = int(x.before[s][next-1]) {
		looks--
		// A chain leads to earlier places, so that each row is longer than the one ahead, of which n bytes were the same.
		row := x.text[s][next-1:]
		// A place is better just if one byte more is the same; those that are not mostly differ there, or right ahead.
		for i := n; i >= 0; i-- {
			if row[i] != wanted[i] {
				continue places
			}
		}
		place, n = next-1, alike(row, wanted, n+1)
		if n == len(wanted) {
			break places
		}
	}
	return place, n
}

// alike tells how many bytes are the same from the first one on; the first n are known to be.
func alike(x, y []byte, n int) int {
	for n < len(x) && n < len(y) && x[n] == y[n] {
		n++
	}
	return n
}
