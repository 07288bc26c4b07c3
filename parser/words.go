package parser

import (
	"formfinder/api"
	"formfinder/lexer"
)

// The words of tokens that the grammar does not quote. None of them is a key
// word, and no name has a word of its own, so that they stand for nothing else.
const (
	aName   = "name"
	aNumber = "number"
	aType   = "type"
	theEnd  = "end"
)

// wordOf returns the word by which the grammar knows a token.
func wordOf(t api.Token) string {
	switch {
	case t.Kind == api.TokNumber:
		return aNumber
	case t.Kind == api.TokType:
		return aType
	case t.Kind == api.TokName && !isKeyWord(t.Text):
		return aName
	}
	return t.Text
}

func isKeyWord(text string) bool {
	switch text {
	case "struct", "func", "parse", "let", "new", "make", "free", "same", "if", "else",
		"while", "emit", "accept", "reject", "return", "in", "len", "sext", "slt":
		return true
	}
	return false
}

// isName reports whether a text is that of a name: the lexer says what names
// are, but for the key words.
func isName(text string) bool {
	tokens, e, _ := lexer.Lex(text)
	if e != api.OK || len(tokens) != 1 || wordOf(tokens[0]) != aName {
		return false
	}
	// The source of a token may be longer: it may contain gaps.
	return tokens[0].Text == text
}

// signs returns the numbers of the signs of NodeBin.
func signs() map[string]uint64 {
	return map[string]uint64{
		"+": api.SignAdd, "-": api.SignSub, "*": api.SignMul, "/": api.SignDiv, "%": api.SignRem,
		"&": api.SignAnd, "|": api.SignOr, "^": api.SignXor, "<<": api.SignShl, ">>": api.SignShr,
		"==": api.SignEq, "!=": api.SignNe, "<": api.SignLt, "<=": api.SignLe,
		">": api.SignGt, ">=": api.SignGe, "slt": api.SignSlt,
	}
}
