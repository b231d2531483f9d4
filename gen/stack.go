package gen

// stack is what is noted of the words on a stack: a note for each word, the bottom first. Of what the notes are it knows nothing.
type stack[N any] []N

// push notes one more word on top.
func (s *stack[N]) push(n N) { *s = append(*s, n) }

// top is the note of the uppermost word.
func (s stack[N]) top() N { return s[len(s)-1] }

// take removes the notes of so many words from the top, and answers them in new memory, the lowest first.
func (s *stack[N]) take(many int) []N {
	below := len(*s) - many
	taken := append([]N(nil), (*s)[below:]...)
	*s = (*s)[:below]
	return taken
}
