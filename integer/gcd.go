package integer

// steps tells what several divisions make of two numbers x and y: a x + b y, and c x + d y.
type steps struct{ a, b, c, d int }

// gcd returns the greatest common divisor. Where the leading digits of both numbers tell several quotients, these divisions are done at once (Lehmer's algorithm).
func (x pieces) gcd(y pieces) pieces {
	if x.compare(y) < 0 {
		x, y = y, x
	}
	for len(y) > 2 {
		s := lead(x, y)
		if s.b == 0 {
			_, rest := x.divide(y)
			x, y = y, rest
		} else {
			x, y = x.combine(s.a, y, s.b), x.combine(s.c, y, s.d)
		}
	}
	if len(y) == 0 {
		return x
	}
	_, rest := x.divide(y)
	common := gcdInts(y.value(), rest.value())
	return pieces{common % base, common / base}.trim()
}

// lead returns the divisions that the leading digits of x and y tell; b is 0 if they tell none. As long as the quotients of the least and the greatest numbers with these digits are the same, the magnitudes of a, b, c and d stay below the root of the leading numbers, thus below base.
func lead(x, y pieces) steps {
	n := len(x)
	scale := 1
	for x[n-1]*scale < base/10 {
		scale *= 10
	}
	leading := func(z pieces) int {
		return (z.at(n-1)*base+z.at(n-2))*scale + z.at(n-3)/(base/scale)
	}
	u, v := leading(x), leading(y)
	s := steps{1, 0, 0, 1}
	for v+s.c != 0 && v+s.d != 0 {
		q := (u + s.a) / (v + s.c)
		if q != (u+s.b)/(v+s.d) {
			break
		}
		s = steps{s.c, s.d, s.a - q*s.c, s.b - q*s.d}
		u, v = v, u-q*v
	}
	return s
}
