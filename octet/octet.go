// Package octet is layer 1: bytes that are read and written one behind the other (see shared/doc/01-octet.md).
package octet

import "picklock/api"

// widest is how many bytes the numbers here have at most: those of a uint64.
const widest = 8

// order says how a number's bytes stand: rank tells, of the byte at place i of n, how many bytes of the number are lower.
type order struct {
	rank func(i, n int) int
}

func highestFirst() order {
	return order{rank: func(i, n int) int { return n - 1 - i }}
}

func lowestFirst() order {
	return order{rank: func(i, n int) int { return i }}
}

// number expects at most widest bytes.
func (o order) number(b []byte) uint64 {
	var u uint64
	for i := range len(b) {
		u |= uint64(b[i]) << (8 * o.rank(i, len(b)))
	}
	return u
}

// appended expects n from 0 to widest.
func (o order) appended(b []byte, u uint64, n int) []byte {
	for i := range n {
		b = append(b, byte(u>>(8*o.rank(i, n))))
	}
	return b
}

// Reader has bytes, and a place (A1).
type Reader struct {
	b  []byte
	at int
}

// NewReader makes a reader of a copy, since b's owner may write over it.
func NewReader(b []byte) *Reader {
	return &Reader{b: copied(b)}
}

// At tells the place.
func (r *Reader) At() int { return r.at }

// Left tells how many bytes are left behind the place.
func (r *Reader) Left() int { return len(r.b) - r.at }

// Byte tells the next byte.
func (r *Reader) Byte() (byte, api.Errno) {
	b, e := r.take(1)
	if e != api.OK {
		return 0, e
	}
	return b[0], api.OK
}

// Bytes tells the next n bytes.
func (r *Reader) Bytes(n int) ([]byte, api.Errno) {
	b, e := r.take(n)
	if e != api.OK {
		return nil, e
	}
	return copied(b), api.OK
}

// Big tells the number that the next n bytes are, the highest byte first.
func (r *Reader) Big(n int) (uint64, api.Errno) { return r.number(n, highestFirst()) }

// Little tells the number that the next n bytes are, the lowest byte first.
func (r *Reader) Little(n int) (uint64, api.Errno) { return r.number(n, lowestFirst()) }

func (r *Reader) number(n int, o order) (uint64, api.Errno) {
	// Too wide a number is told ahead of bytes that are missing.
	if n > widest {
		return 0, api.ErrArg
	}
	b, e := r.take(n)
	if e != api.OK {
		return 0, e
	}
	return o.number(b), api.OK
}

// take moves the place behind the next n bytes; they are the reader's own, so no caller may be handed them.
func (r *Reader) take(n int) ([]byte, api.Errno) {
	if n < 0 {
		return nil, api.ErrArg
	}
	if n > r.Left() {
		return nil, api.ErrShort
	}
	b := r.b[r.at : r.at+n]
	r.at += n
	return b, api.OK
}

// Writer has bytes; a zero one has none (A2).
type Writer struct {
	b []byte
}

// Byte writes a byte.
func (w *Writer) Byte(x byte) *Writer {
	w.b = append(w.b, x)
	return w
}

// Bytes writes all of b.
func (w *Writer) Bytes(b []byte) *Writer {
	w.b = append(w.b, b...)
	return w
}

// Big writes the lowest n bytes of u, the highest of them first.
func (w *Writer) Big(u uint64, n int) *Writer { return w.number(u, n, highestFirst()) }

// Little writes the lowest n bytes of u, the lowest of them first.
func (w *Writer) Little(u uint64, n int) *Writer { return w.number(u, n, lowestFirst()) }

func (w *Writer) number(u uint64, n int, o order) *Writer {
	w.b = o.appended(w.b, u, min(max(n, 0), widest))
	return w
}

// Len tells how many bytes were written.
func (w *Writer) Len() int { return len(w.b) }

// Done tells the bytes that were written; more may be written behind them still.
func (w *Writer) Done() []byte { return copied(w.b) }

func copied(b []byte) []byte {
	c := make([]byte, len(b))
	copy(c, b)
	return c
}
