package heap

import "tappet/api"

// loaded is a memory of the same limit that holds the objects of l alone. It is built beside the old one, which stays as it is if there is an error.
func (m *memory) loaded(l []Object, root api.Word, hashes int) (*memory, error) {
	if m.limit == 0 {
		return nil, invalid("words of the heap:", m.limit)
	}
	used, err := needed(l)
	if err != nil {
		return nil, err
	}
	if used > m.limit {
		return nil, full("words", m.limit)
	}
	if err := checkHashes(l, hashes); err != nil {
		return nil, err
	}
	next := empty(m.limit, used)
	for _, o := range l {
		next.place(o.Class, o.Hash, o.Fields)
	}
	next.root, next.hashes = root, hashes
	if err := next.checkLoaded(); err != nil {
		return nil, err
	}
	return next, nil
}

// needed is how many words are in use if l is all that there is.
func needed(l []Object) (int, error) {
	used := firstWord
	for _, o := range l {
		if len(o.Fields) > api.MaxFields {
			return 0, invalid("size", len(o.Fields))
		}
		used += headWords + len(o.Fields)
	}
	return used, nil
}

// checkHashes is an error if the objects can't have their hashes when so many were assigned.
func checkHashes(l []Object, hashes int) error {
	if hashes < 0 || hashes > maxHashes {
		return invalid("assigned hashes:", hashes)
	}
	taken := map[int]struct{}{}
	for _, o := range l {
		if o.Hash == 0 {
			continue
		}
		if o.Hash < 0 || o.Hash > hashes {
			return invalid("hash", o.Hash)
		}
		if _, twice := taken[o.Hash]; twice {
			return invalid("two objects with the hash", o.Hash)
		}
		taken[o.Hash] = struct{}{}
	}
	return nil
}

// checkLoaded is an error if a word leads nowhere. Words may lead to objects behind them, so all have to be in their places before.
func (m *memory) checkLoaded() error {
	for at := range m.objects {
		if err := m.check(m.words[at+classAt]); err != nil {
			return err
		}
		if err := m.check(m.fields(at)...); err != nil {
			return err
		}
	}
	if _, ok := m.start(m.root); !ok && m.root != 0 {
		return invalidWord("no object at", m.root)
	}
	return nil
}
