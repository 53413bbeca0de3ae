package alu

// Left (M2) tells v with its bits a place higher, and carry as bit 0; and bit 7 of v, which has no place any more.
func Left(v byte, carry bool) (r byte, c bool) {
	r = v << 1
	if carry {
		r |= 1
	}
	return r, bit(v, 7)
}

// Right (M2) tells v with its bits a place lower, and carry as bit 7; and bit 0 of v, which has no place any more.
func Right(v byte, carry bool) (r byte, c bool) {
	r = v >> 1
	if carry {
		r |= 1 << 7
	}
	return r, bit(v, 0)
}

// Bit (M2) tells whether a and v have no bit in common, and bits 7 and 6 of v, whatever a is.
func Bit(a, v byte) (z, n, o bool) {
	return a&v == 0, bit(v, 7), bit(v, 6)
}

// bit tells whether v's bit with that number is set.
func bit(v byte, number int) bool {
	return v>>number&1 == 1
}
