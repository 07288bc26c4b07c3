package lexer

import (
	"strconv"
	"strings"

	"formfinder/api"
)

// read returns the token with a text, without its offset. The text is as long
// as that of a token: a word, a number or a sign.
func read(text string) (api.Token, api.Errno) {
	switch first := roles(text[0]); {
	case first&letter != 0:
		return readWord(text)
	case first&digit != 0:
		return readNumber(text)
	}
	return api.Token{Kind: api.TokPunct, Text: text}, api.OK
}

func readWord(word string) (api.Token, api.Errno) {
	if w, found := width(word); found {
		return api.Token{Kind: api.TokType, N: w}, api.OK
	}
	if len(word) > api.MaxName {
		return api.Token{}, api.ErrRange
	}
	return api.Token{Kind: api.TokName, Text: word}, api.OK
}

// width returns the width that a word is the type of, if it is a type.
func width(word string) (uint64, bool) {
	digits, found := strings.CutPrefix(word, "u")
	if !found {
		return 0, false
	}
	w, err := strconv.ParseUint(digits, 10, 64)
	// Only the shortest text of a width is a type: u08 is a name.
	if err != nil || w < 1 || w > api.MaxWidth || strconv.FormatUint(w, 10) != digits {
		return 0, false
	}
	return w, true
}

func readNumber(digits string) (api.Token, api.Errno) {
	if len(digits) > 1 && digits[0] == '0' {
		return api.Token{}, api.ErrSyntax
	}
	n, err := strconv.ParseUint(digits, 10, 64)
	if err != nil {
		// They are nothing but digits, so the value can only be too great.
		return api.Token{}, api.ErrRange
	}
	return api.Token{Kind: api.TokNumber, N: n}, api.OK
}
