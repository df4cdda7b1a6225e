package whole

import (
	"cmp"
	"math/bits"
	"slices"
	"strconv"
)

const (
	width = 18                        // digits that are read or written at once
	chunk = 1_000_000_000_000_000_000 // 10 to the power width
)

// words has the magnitude of an integer, the lowest words first; the last one is not 0.
type words []uint64

// trim leaves out the zeros at the end.
func (x words) trim() words {
	n := len(x)
	for n > 0 && x[n-1] == 0 {
		n--
	}
	return x[:n]
}

// split makes words of digits.
func split(digits string) words {
	x := make(words, 0, len(digits)/width+1)
	for len(digits) > 0 {
		n := (len(digits)-1)%width + 1
		part, _ := strconv.ParseUint(digits[:n], 10, 64)
		digits = digits[n:]
		// All parts but the first one have width digits.
		for i, word := range x {
			high, low := bits.Mul64(word, chunk)
			sum, carry := bits.Add64(low, part, 0)
			x[i], part = sum, high+carry
		}
		if part > 0 {
			x = append(x, part)
		}
	}
	return x
}

// digits writes words that are not 0.
func (x words) digits() string {
	rest := slices.Clone(x)
	var parts []uint64
	for len(rest) > 0 {
		var part uint64
		for i := len(rest) - 1; i >= 0; i-- {
			rest[i], part = bits.Div64(part, rest[i], chunk)
		}
		rest = rest.trim()
		parts = append(parts, part)
	}
	last := len(parts) - 1
	text := strconv.AppendUint(make([]byte, 0, width*len(parts)), parts[last], 10)
	for _, part := range slices.Backward(parts[:last]) {
		// The digit before those of the part keeps its leading zeros, and is overwritten by the digit that stood there.
		end := len(text) - 1
		before := text[end]
		text = strconv.AppendUint(text[:end], chunk+part, 10)
		text[end] = before
	}
	return string(text)
}

func (x words) compare(y words) int {
	if order := cmp.Compare(len(x), len(y)); order != 0 {
		return order
	}
	for i := len(x) - 1; i >= 0; i-- {
		if x[i] != y[i] {
			return cmp.Compare(x[i], y[i])
		}
	}
	return 0
}

func (x words) plus(y words) words {
	if len(x) < len(y) {
		x, y = y, x
	}
	z := make(words, len(x)+1)
	var carry uint64
	for i, word := range x {
		var other uint64
		if i < len(y) {
			other = y[i]
		}
		z[i], carry = bits.Add64(word, other, carry)
	}
	z[len(x)] = carry
	return z.trim()
}

// less returns the difference to an integer that is not greater.
func (x words) less(y words) words {
	z := slices.Clone(x)
	z.subtract(y, 1)
	return z.trim()
}

// subtract takes a multiple of y off x; of what is beyond the words of x nothing is taken.
func (x words) subtract(y words, times uint64) {
	var carry uint64
	for i := range x {
		if i >= len(y) && carry == 0 {
			return
		}
		var high, low uint64
		if i < len(y) {
			high, low = bits.Mul64(y[i], times)
		}
		sum, over := bits.Add64(low, carry, 0)
		rest, borrow := bits.Sub64(x[i], sum, 0)
		x[i], carry = rest, high+over+borrow
	}
}

func (x words) times(y words) words {
	z := make(words, len(x)+len(y))
	for i, factor := range x {
		var carry uint64
		for j, word := range y {
			high, low := bits.Mul64(factor, word)
			sum, over := bits.Add64(low, carry, 0)
			sum, more := bits.Add64(sum, z[i+j], 0)
			z[i+j], carry = sum, high+over+more
		}
		z[i+len(y)] = carry
	}
	return z.trim()
}

// over returns a quotient that is known to be an integer, by words that are not 0. Then its lowest word tells itself from the lowest words of both, and so do the next ones from what is left.
func (x words) over(y words) words {
	if len(x) < len(y) {
		return nil
	}
	zeros := 0
	for y[zeros] == 0 {
		zeros++
	}
	x, y = x[zeros:].halved(bits.TrailingZeros64(y[zeros])), y[zeros:].halved(bits.TrailingZeros64(y[zeros]))
	if len(y) == 1 && y[0] == 1 {
		return x
	}
	inverse := inverted(y[0])
	q := make(words, len(x)-len(y)+1)
	// The words beyond those of the quotient tell nothing more.
	rest := slices.Clone(x[:len(q)])
	for i := range q {
		q[i] = rest[i] * inverse
		rest[i:].subtract(y, q[i])
	}
	return q.trim()
}

// halved returns a new integer that is halved some times, less than 64.
func (x words) halved(times int) words {
	z := make(words, len(x))
	var carry uint64
	for i := len(x) - 1; i >= 0; i-- {
		z[i] = x[i]>>times | carry
		carry = x[i] << (64 - times)
	}
	return z.trim()
}

// inverted returns the word whose product with an odd one has the lowest word 1. An odd word is its own inverse in the lowest three bits, and each step doubles the bits that are right.
func inverted(word uint64) uint64 {
	inverse := word
	for range 5 {
		inverse *= 2 - word*inverse
	}
	return inverse
}
