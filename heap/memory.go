package heap

import (
	"tappet/api"
	"tappet/word"
)

// Where the words of an object's head are, behind its first one, and how many it has.
const (
	classAt = iota
	hashAt
	sizeAt
	headWords
)

const (
	firstWord = 1 // word 0 belongs to no object
	maxHashes = 1<<40 - 1
)

// memory is what a heap holds.
type memory struct {
	limit  int        // how many words there may be
	words  []api.Word // those in use, from word 0 on
	starts []bool     // for each of them: does an object begin there?
	root   api.Word
	hashes int // how many were assigned
}

// empty is a memory without objects that has room for used words before it has to grow.
func empty(limit, used int) *memory {
	return &memory{limit: limit, words: make([]api.Word, firstWord, used), starts: make([]bool, firstWord, used)}
}

// start is where the object begins to which a word leads, if there is one.
func (m *memory) start(w api.Word) (int, bool) {
	at, e := word.Ref(w)
	if e != api.OK || at >= len(m.starts) || !m.starts[at] {
		return 0, false
	}
	return at, true
}

// find is start with an error where a word leads to no object.
func (m *memory) find(w api.Word) (int, error) {
	at, ok := m.start(w)
	if !ok {
		return 0, invalidWord("no object at", w)
	}
	return at, nil
}

// field is where field k of the object is to which a word leads.
func (m *memory) field(w api.Word, k int) (int, error) {
	at, err := m.find(w)
	if err != nil {
		return 0, err
	}
	if k < 0 || k >= m.size(at) {
		return 0, invalid("no field", k)
	}
	return at + headWords + k, nil
}

func (m *memory) size(at int) int { return int(m.words[at+sizeAt]) }

func (m *memory) hash(at int) int { return int(m.words[at+hashAt]) }

// fields shares the words: whoever hands them out has to copy them.
func (m *memory) fields(at int) []api.Word {
	return m.words[at+headWords : at+headWords+m.size(at)]
}

// objects are the places where objects begin, in order.
func (m *memory) objects(yield func(int) bool) {
	for at := firstWord; at < len(m.words); at += headWords + m.size(at) {
		if !yield(at) {
			return
		}
	}
}

// check is an error if one of the words is not valid.
func (m *memory) check(words ...api.Word) error {
	for _, w := range words {
		if _, ok := m.start(w); !ok && w != 0 && !word.IsInt(w) {
			return invalidWord("not valid:", w)
		}
	}
	return nil
}

// set lets a word of an object be another one.
func (m *memory) set(at int, w api.Word) error {
	if err := m.check(w); err != nil {
		return err
	}
	m.words[at] = w
	return nil
}

// assignHash gives an object a hash, unless it has one.
func (m *memory) assignHash(at int) error {
	if m.hash(at) != 0 {
		return nil
	}
	if m.hashes == maxHashes {
		return full("hashes", maxHashes)
	}
	m.hashes++
	m.words[at+hashAt] = api.Word(m.hashes)
	return nil
}

// admit is an error if there can't be one more object of this kind.
func (m *memory) admit(class api.Word, size int, fill api.Word) error {
	if m.limit == 0 {
		return invalid("words of the heap:", m.limit)
	}
	if size < 0 || size > api.MaxFields {
		return invalid("size", size)
	}
	if err := m.check(class, fill); err != nil {
		return err
	}
	if len(m.words)+headWords+size > m.limit {
		return full("words", m.limit)
	}
	return nil
}

// place lays an object behind the last one; it is where the object begins.
func (m *memory) place(class api.Word, hash int, fields []api.Word) int {
	at := len(m.words)
	m.words = append(m.words, class, api.Word(hash), api.Word(len(fields)))
	m.words = append(m.words, fields...)
	m.starts = append(m.starts, make([]bool, headWords+len(fields))...)
	m.starts[at] = true
	return at
}
