package integer

import (
	"slices"
	"strconv"

	"klippe/api"
)

// number is an integer with its sign apart.
type number struct {
	minus bool
	size  pieces
}

// read takes an integer apart. What is no integer is taken for 0, so that no piece is ever out of its range.
func read(a api.Int) number {
	digits := magnitude(a)
	if !isDigits(digits) {
		return number{}
	}
	return number{len(digits) < len(a), split(digits)}
}

// text returns the canonical integer.
func (x number) text() api.Int {
	if len(x.size) == 0 {
		return "0"
	}
	text := make([]byte, 0, 1+width*len(x.size))
	if x.minus {
		text = append(text, '-')
	}
	last := len(x.size) - 1
	text = strconv.AppendInt(text, int64(x.size[last]), 10)
	for _, piece := range slices.Backward(x.size[:last]) {
		text = appendPiece(text, piece)
	}
	return api.Int(text)
}

// appendPiece appends all digits of a piece, with leading zeros.
func appendPiece(text []byte, piece int) []byte {
	text = append(text, "000000000"...)
	for i := len(text) - 1; piece > 0; i-- {
		text[i] = byte('0' + piece%10)
		piece /= 10
	}
	return text
}

func (x number) opposite() number { return number{!x.minus, x.size} }

func (x number) plus(y number) number {
	if x.minus == y.minus {
		return number{x.minus, x.size.plus(y.size)}
	}
	if x.size.compare(y.size) < 0 {
		x, y = y, x
	}
	return number{x.minus, x.size.less(y.size)}
}
