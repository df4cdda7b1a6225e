package stereonet

import (
	"bytes"
	"cmp"

	"klippe/api"
)

// Picture returns a net with the numbers of the poles at their pixels as lines of text, the northern one first.
func Picture(n Net, poles []api.Vector) ([]string, api.Errno) {
	if e := cmp.Or(checkNumbers(poles...), n.check()); e != api.OK {
		return nil, e
	}
	if n.Radius > MaxPicture || len(poles) > MaxPoles {
		return nil, api.ErrLimit
	}
	if e := checkZeros(poles...); e != api.OK {
		return nil, e
	}
	lines := disc(n.Radius)
	for _, pole := range poles {
		at := n.pixel(axial(lower(pole)))
		line, column := lines[n.Radius-at.Row], n.Radius+at.Column
		line[column] = more(line[column])
	}
	texts := make([]string, len(lines))
	for i, line := range lines {
		texts[i] = string(line)
	}
	return texts, api.OK
}

// disc returns the lines of a net without poles.
func disc(radius int) [][]byte {
	size := 2*radius + 1
	lines := make([][]byte, size)
	for i := range lines {
		lines[i] = bytes.Repeat([]byte{' '}, size)
		for j := range size {
			if row, column := radius-i, j-radius; row*row+column*column <= radius*radius {
				lines[i][j] = '.'
			}
		}
	}
	return lines
}

// more returns what a pixel shows with one pole more.
func more(shown byte) byte {
	switch shown {
	case '.', ' ':
		return '1'
	case '9', '*':
		return '*'
	}
	return shown + 1
}
