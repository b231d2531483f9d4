package image

// numberBytes is how many bytes a number has, the least significant one first.
const numberBytes = 8

// source gives the next number at each call, an error if there is none.
type source func() (uint64, error)

// reader takes numbers off the front of bytes.
type reader struct{ rest []byte }

// number is the next one.
func (r *reader) number() (uint64, error) {
	if len(r.rest) < numberBytes {
		return 0, errTruncated
	}
	var n uint64
	for k, b := range r.rest[:numberBytes] {
		n |= uint64(b) << (8 * k)
	}
	r.rest = r.rest[numberBytes:]
	return n, nil
}

// readNumbers reads so many of them.
func readNumbers(next source, count int) ([]uint64, error) {
	list := make([]uint64, count)
	for k := range list {
		n, err := next()
		if err != nil {
			return nil, err
		}
		list[k] = n
	}
	return list, nil
}

// appendNumbers lays numbers behind bytes.
func appendNumbers(b []byte, numbers ...uint64) []byte {
	for _, n := range numbers {
		for k := range numberBytes {
			b = append(b, byte(n>>(8*k)))
		}
	}
	return b
}
