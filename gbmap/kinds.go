package gbmap

import "picklock/gbhead"

// writeSpan is how many addresses take what is written in one way: MBC5 parts those that the others take alike.
const writeSpan = 0x1000

type (
	// spanWrites is what is done with v at each span of addresses.
	spanWrites [romEnd / writeSpan]func(r *registers, v byte)
	// spanBanks is which banks stand at ROM's two spans. They need not be there: they are counted round.
	spanBanks [romEnd / romBank]func(r *registers) int
)

// kind is what a kind does.
type kind struct {
	// enabled tells that RAM is so at first.
	enabled bool
	writes  spanWrites
	banks   spanBanks
	// ram is which bank of RAM stands, or nowhere.
	ram func(r *registers) int
}

// kindOf tells what a kind does, if it is one that is known.
func kindOf(number int) (does kind, known bool) {
	kinds := map[int]kind{
		gbhead.Plain: {
			enabled: true,
			writes: spanWrites{
				(*registers).ignore, (*registers).ignore, (*registers).ignore, (*registers).ignore,
				(*registers).ignore, (*registers).ignore, (*registers).ignore, (*registers).ignore,
			},
			banks: spanBanks{(*registers).bank0, (*registers).bank1},
			ram:   (*registers).bank0,
		},
		gbhead.MBC1: {
			writes: spanWrites{
				(*registers).enable, (*registers).enable, (*registers).setLow5, (*registers).setLow5,
				(*registers).setHigh2, (*registers).setHigh2, (*registers).setMode, (*registers).setMode,
			},
			banks: spanBanks{(*registers).wideBank, (*registers).wideAndLowBank},
			ram:   (*registers).highBankIfMode,
		},
		gbhead.MBC3: {
			writes: spanWrites{
				(*registers).enable, (*registers).enable, (*registers).setLow7, (*registers).setLow7,
				(*registers).setHigh8, (*registers).setHigh8, (*registers).ignore, (*registers).ignore,
			},
			banks: spanBanks{(*registers).bank0, (*registers).lowBank},
			ram:   (*registers).highBankIfFew,
		},
		gbhead.MBC5: {
			writes: spanWrites{
				(*registers).enable, (*registers).enable, (*registers).setLowest8, (*registers).setNinth,
				(*registers).setHigh4, (*registers).setHigh4, (*registers).ignore, (*registers).ignore,
			},
			banks: spanBanks{(*registers).bank0, (*registers).lowBank},
			ram:   (*registers).highBank,
		},
	}
	does, known = kinds[number]
	return does, known
}
