package gen

import (
	"tappet/api"
	"tappet/word"
)

// The sources, as chapter 11 describes them.

func register(n int) api.Src { return api.Src{Kind: api.SrcReg, N: n} }

func literal(w api.Word) api.Src { return api.Src{Kind: api.SrcLit, W: w} }

func receiver() api.Src { return api.Src{Kind: api.SrcSelf} }

// number is the word of an integer that surely has one.
func number(n int) api.Word {
	w, _ := word.FromInt(n)
	return w
}
