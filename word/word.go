// Package word is layer 1, integers and references in words: see shared/doc/01-word.md.
package word

import "tappet/api"

const (
	minInt = -1 << 62
	maxInt = 1<<62 - 1
	maxRef = 1<<31 - 1
)

// The kinds of arithmetic.
const (
	plus = iota
	minus
	times
	by
	rest
	and
	or
	xor
)

// The kinds of comparison.
const (
	less = iota
	lessOrSame
	same
)

// FromInt is a number's word.
func FromInt(n int) (api.Word, api.Errno) {
	if n < minInt || n > maxInt {
		return 0, api.ErrArg
	}
	return api.Word(n)<<1 | 1, api.OK
}

// FromRef is a reference's word.
func FromRef(at int) (api.Word, api.Errno) {
	if at < 1 || at > maxRef {
		return 0, api.ErrArg
	}
	return api.Word(at) << 1, api.OK
}

// IsInt: is a word a number's?
func IsInt(w api.Word) bool { return w&1 == 1 }

// Int is a word's number.
func Int(w api.Word) (int, api.Errno) {
	if !IsInt(w) {
		return 0, api.ErrArg
	}
	// The shift has to be a signed one, so that the sign's bit is kept.
	return int(w) >> 1, api.OK
}

// Ref is where a reference leads.
func Ref(w api.Word) (int, api.Errno) {
	// Words are compared before they become an int: the greatest would be negative.
	if IsInt(w) || w>>1 < 1 || w>>1 > maxRef {
		return 0, api.ErrArg
	}
	return int(w >> 1), api.OK
}

// Arith reckons with two numbers; does the result fit?
func Arith(kind int, a, b api.Word) (api.Word, bool) {
	n, m, ok := numbers(a, b)
	if !ok {
		return 0, false
	}
	r, ok := result(kind, n, m)
	if !ok {
		return 0, false
	}
	w, e := FromInt(r)
	return w, e == api.OK
}

// Less holds two numbers against one another; are they numbers?
func Less(kind int, a, b api.Word) (bool, bool) {
	n, m, ok := numbers(a, b)
	if !ok {
		return false, false
	}
	switch kind {
	case less:
		return n < m, true
	case lessOrSame:
		return n <= m, true
	case same:
		return n == m, true
	}
	return false, false
}

// numbers is what two words say, if both are integers.
func numbers(a, b api.Word) (int, int, bool) {
	n, e := Int(a)
	if e != api.OK {
		return 0, 0, false
	}
	m, e := Int(b)
	if e != api.OK {
		return 0, 0, false
	}
	return n, m, true
}

// result reckons with two integers of 63 bits. What it answers fits in 64 bits, not always in 63; it is false if there is no result, or none of 64 bits.
func result(kind, n, m int) (int, bool) {
	switch kind {
	case minus:
		// The negative of the least integer, 2^62, has no word, yet no sum with it exceeds 64 bits.
		m = -m
		fallthrough
	case plus:
		return n + m, true
	case times:
		return product(n, m)
	case by:
		q, _, ok := floor(n, m)
		return q, ok
	case rest:
		_, r, ok := floor(n, m)
		return r, ok
	case and:
		return n & m, true
	case or:
		return n | m, true
	case xor:
		return n ^ m, true
	}
	return 0, false
}

// product is false if 64 bits don't hold it.
func product(n, m int) (int, bool) {
	if n == 0 {
		return 0, true
	}
	// A product that wrapped round is off by at least 2^64, more than |n|, so the division can't give m back.
	p := n * m
	if p/n != m {
		return 0, false
	}
	return p, true
}

// floor is the quotient rounded down and its remainder; false if the divisor is 0.
func floor(n, m int) (int, int, bool) {
	if m == 0 {
		return 0, 0, false
	}
	q, r := n/m, n%m
	// The language rounds towards 0; the two differ where there is a remainder whose sign is not the divisor's.
	if r != 0 && (r < 0) != (m < 0) {
		q, r = q-1, r+m
	}
	return q, r, true
}
