package integer

import (
	"slices"
	"strconv"
	"strings"

	"bombarde/api"
)

const (
	pieceDigits = 9             // of a piece
	pieceBase   = 1_000_000_000 // a piece is less; the product of two pieces, and a piece more, fits into 64 bits
)

// number is an integer with its digits in pieces of nine, the lowest piece first.
// The highest piece is not 0; 0 has no piece, and its sign means nothing.
type number struct {
	negative bool
	pieces   []uint64
}

// read returns the number of an integer, 0 if it is not canonical.
func read(a api.Int) number {
	if !canonical(a) {
		return number{}
	}
	d := digits(a)
	var pieces []uint64
	for end := len(d); end > 0; end -= pieceDigits {
		pieces = append(pieces, pieceOf(d[max(0, end-pieceDigits):end]))
	}
	return number{negative: len(d) < len(a), pieces: trimmed(pieces)}
}

// pieceOf returns the value of at most nine digits.
func pieceOf(digits string) uint64 {
	piece := uint64(0)
	for i := range len(digits) {
		piece = 10*piece + uint64(digits[i]-'0')
	}
	return piece
}

// trimmed returns pieces without zeros at the high end.
func trimmed(pieces []uint64) []uint64 {
	for len(pieces) > 0 && pieces[len(pieces)-1] == 0 {
		pieces = pieces[:len(pieces)-1]
	}
	return pieces
}

// text writes a number.
func (x number) text() api.Int {
	if len(x.pieces) == 0 {
		return "0"
	}
	var b strings.Builder
	if x.negative {
		b.WriteByte('-')
	}
	for i, piece := range slices.Backward(x.pieces) {
		digits := strconv.FormatUint(piece, 10)
		if i < len(x.pieces)-1 {
			b.WriteString(strings.Repeat("0", pieceDigits-len(digits)))
		}
		b.WriteString(digits)
	}
	return api.Int(b.String())
}

// negated returns a number with the other sign.
func (x number) negated() number {
	return number{negative: !x.negative, pieces: x.pieces}
}

// sign returns the sign of a number: -1, 0 or 1.
func (x number) sign() int {
	switch {
	case len(x.pieces) == 0:
		return 0
	case x.negative:
		return -1
	}
	return 1
}

// plus returns a sum.
func (x number) plus(y number) number {
	if x.negative == y.negative {
		return number{negative: x.negative, pieces: addMagnitudes(x.pieces, y.pieces)}
	}
	if lessMagnitude(x.pieces, y.pieces) {
		x, y = y, x
	}
	return number{negative: x.negative, pieces: subMagnitudes(x.pieces, y.pieces)}
}

// times returns a product.
func (x number) times(y number) number {
	return number{negative: x.negative != y.negative, pieces: mulMagnitudes(x.pieces, y.pieces)}
}

// divide returns the quotient, rounded down, and the remainder; y is not 0.
func (x number) divide(y number) (quotient, rest number) {
	q, r := divideMagnitudes(x.pieces, y.pieces)
	if x.negative != y.negative && len(r) > 0 {
		q = addMagnitudes(q, []uint64{1})
		r = subMagnitudes(y.pieces, r)
	}
	return number{negative: x.negative != y.negative, pieces: q}, number{negative: y.negative, pieces: r}
}

// lessMagnitude reports whether a is less than b.
func lessMagnitude(a, b []uint64) bool {
	if len(a) != len(b) {
		return len(a) < len(b)
	}
	for i, piece := range slices.Backward(a) {
		if piece != b[i] {
			return piece < b[i]
		}
	}
	return false
}

// addMagnitudes returns a sum.
func addMagnitudes(a, b []uint64) []uint64 {
	if len(a) < len(b) {
		a, b = b, a
	}
	sum := make([]uint64, 0, len(a)+1)
	carry := uint64(0)
	for i, piece := range a {
		carry += piece
		if i < len(b) {
			carry += b[i]
		}
		sum = append(sum, carry%pieceBase)
		carry /= pieceBase
	}
	return trimmed(append(sum, carry))
}

// subMagnitudes returns a difference; a is not less than b.
func subMagnitudes(a, b []uint64) []uint64 {
	rest := slices.Clone(a)
	subtractTimes(rest, b, 1)
	return trimmed(rest)
}

// mulMagnitudes returns a product.
func mulMagnitudes(a, b []uint64) []uint64 {
	product := make([]uint64, len(a)+len(b))
	for i, factor := range a {
		carry := uint64(0)
		for k, piece := range b {
			carry += product[i+k] + factor*piece
			product[i+k] = carry % pieceBase
			carry /= pieceBase
		}
		product[i+len(b)] = carry
	}
	return trimmed(product)
}

// divideMagnitudes returns quotient and remainder of long division, piece by piece; b is not 0.
func divideMagnitudes(a, b []uint64) (quotient, rest []uint64) {
	if len(a) < len(b) {
		return nil, slices.Clone(a)
	}
	if len(b) == 1 {
		quotient, low := divideByPiece(a, b[0])
		return quotient, trimmed([]uint64{low})
	}
	// With a divisor whose highest piece is at least half of the base, a guess from two pieces is at most 2 too great.
	scale := pieceBase / (b[len(b)-1] + 1)
	divisor := mulMagnitudes(b, []uint64{scale})
	rest = make([]uint64, len(a)+1)
	copy(rest, mulMagnitudes(a, []uint64{scale}))
	quotient = make([]uint64, len(a)-len(b)+1)
	for i := range slices.Backward(quotient) {
		part := rest[i : i+len(divisor)+1]
		guess := guessPiece(part, divisor)
		if subtractTimes(part, divisor, guess) {
			addBack(part, divisor)
			guess--
		}
		quotient[i] = guess
	}
	rest, _ = divideByPiece(rest, scale)
	return trimmed(quotient), rest
}

// divideByPiece returns the quotient of a magnitude and one piece, and the remainder.
func divideByPiece(a []uint64, divisor uint64) (quotient []uint64, rest uint64) {
	quotient = make([]uint64, len(a))
	for i, piece := range slices.Backward(a) {
		rest = rest*pieceBase + piece
		quotient[i] = rest / divisor
		rest %= divisor
	}
	return trimmed(quotient), rest
}

// guessPiece returns the quotient of a part and a divisor that has one piece less, or 1 more: it looks at the three highest pieces of the part, and at the two highest ones of the divisor.
func guessPiece(part, divisor []uint64) uint64 {
	n := len(divisor)
	first, second := divisor[n-1], divisor[n-2]
	high := part[n]*pieceBase + part[n-1]
	guess := min(high/first, pieceBase-1)
	rest := high - guess*first
	for rest < pieceBase && guess*second > rest*pieceBase+part[n-2] {
		guess--
		rest += first
	}
	return guess
}

// subtractTimes subtracts a multiple of b from a, which is at least as long, and reports whether that went below 0 (a is then too great by the base to the power of its length).
func subtractTimes(a, b []uint64, factor uint64) bool {
	carry, borrow := uint64(0), uint64(0)
	for i := range a {
		if i < len(b) {
			carry += b[i] * factor
		}
		less := carry%pieceBase + borrow
		carry /= pieceBase
		borrow = 0
		if a[i] < less {
			a[i] += pieceBase
			borrow = 1
		}
		a[i] -= less
	}
	return borrow == 1
}

// addBack adds b to a, which is longer and went below 0; what would be carried further takes back what was borrowed.
func addBack(a, b []uint64) {
	carry := uint64(0)
	for i := range a {
		carry += a[i]
		if i < len(b) {
			carry += b[i]
		}
		a[i] = carry % pieceBase
		carry /= pieceBase
	}
}
