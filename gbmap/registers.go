package gbmap

// registers are what writes set.
type registers struct {
	enabled bool
	low     int
	high    int
	mode    int
}

func atFirst(does kind) registers { return registers{enabled: does.enabled, low: 1} }

// enabling is what the lowest four bits are of a v that enables RAM.
const enabling = 10

func lowest(v byte, bits int) int { return int(v) % (1 << bits) }

func (r *registers) ignore(byte)       {}
func (r *registers) enable(v byte)     { r.enabled = lowest(v, 4) == enabling }
func (r *registers) setLow5(v byte)    { r.low = max(lowest(v, 5), 1) }
func (r *registers) setLow7(v byte)    { r.low = max(lowest(v, 7), 1) }
func (r *registers) setLowest8(v byte) { r.low = r.low&0x100 | int(v) }
func (r *registers) setNinth(v byte)   { r.low = r.low&0xFF | lowest(v, 1)<<8 }
func (r *registers) setHigh2(v byte)   { r.high = lowest(v, 2) }
func (r *registers) setHigh4(v byte)   { r.high = lowest(v, 4) }
func (r *registers) setHigh8(v byte)   { r.high = int(v) }
func (r *registers) setMode(v byte)    { r.mode = lowest(v, 1) }

func (r *registers) bank0() int    { return 0 }
func (r *registers) bank1() int    { return 1 }
func (r *registers) lowBank() int  { return r.low }
func (r *registers) highBank() int { return r.high }

// wide is how many banks HIGH of MBC1 counts by, since LOW goes no further.
const wide = 32

func (r *registers) wideBank() int       { return wide * r.highBankIfMode() }
func (r *registers) wideAndLowBank() int { return wide*r.high + r.low }

func (r *registers) highBankIfMode() int {
	if r.mode == 1 {
		return r.high
	}
	return 0
}

// fewBanks is how many banks of RAM HIGH of MBC3 can tell: what it tells from there on is no RAM.
const fewBanks = 4

func (r *registers) highBankIfFew() int {
	if r.high < fewBanks {
		return r.high
	}
	return nowhere
}
