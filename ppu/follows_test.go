package ppu_test

import "testing"

// What follows: behind as many dots as a picture has it stands where it was, with one Frame more, from each dot on.
func TestPicture(t *testing.T) {
	for from := range pictureDots {
		p, _ := made(0)
		p.Run(from)
		row, dot := p.Place()
		frames := p.Frames()
		p.Run(pictureDots)
		rowThen, dotThen := p.Place()
		if rowThen != row || dotThen != dot || p.Frames() != frames+1 {
			t.Fatalf("from row %d, dot %d: row %d, dot %d, %d Frames more", row, dot, rowThen, dotThen, p.Frames()-frames)
		}
	}
}

// What follows: it doesn't matter in how many parts time goes by.
func TestParts(t *testing.T) {
	for seed := range 30 {
		b := chance(seed, 3000)
		p, c := made(0)
		q, d := made(0)
		for i := 0; i < len(b); i += 3 {
			dots := int(b[i]) * int(b[i+1])
			p.Run(dots)
			for left := dots; left > 0; {
				n := min(left, int(b[(i+left)%len(b)])*int(b[i+2])%400+1)
				q.Run(n)
				left -= n
			}
			reg := int(b[i+2]) % 2
			p.Write(reg, b[i])
			q.Write(reg, b[i])
			isSame(t, "NMI", p.NMI(), q.NMI())
			if b[i] < 50 {
				isSame(t, "VBLANK", p.Read(2), q.Read(2))
			}
		}
		isLook(t, "in parts", q, lookOf(p))
		isList(t, "what the cart was asked in parts", d.calls, c.calls)
	}
}
