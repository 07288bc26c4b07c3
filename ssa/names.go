package ssa

import (
	"slices"
	"strconv"

	"formfinder/api"
)

// namesFit reports whether all names are those of the language, and differ.
func namesFit(names []string) bool {
	for i, name := range names {
		if !isName(name) || slices.Contains(names[:i], name) {
			return false
		}
	}
	return true
}

func isName(text string) bool {
	return within(len(text), 1, api.MaxName) && isWord(text) && !isKeyWord(text) && !isType(text)
}

// isWord reports whether a text that is not empty consists of a lower-case
// letter, and then of lower-case letters and digits.
func isWord(text string) bool {
	for i := range len(text) {
		isLetter := within(int(text[i]), 'a', 'z')
		isDigit := within(int(text[i]), '0', '9')
		if !isLetter && (i == 0 || !isDigit) {
			return false
		}
	}
	return true
}

func isKeyWord(text string) bool {
	switch text {
	case "struct", "func", "parse", "let", "new", "make", "free", "same", "if", "else",
		"while", "emit", "accept", "reject", "return", "in", "len", "sext", "slt":
		return true
	}
	return false
}

// isType reports whether a word is that of a width. It is compared with the
// word that this width has, for a number with a zero before it is none.
func isType(word string) bool {
	w, err := strconv.Atoi(word[1:])
	return err == nil && isWidth(w) && word == "u"+strconv.Itoa(w)
}
