package lexer

// ends returns the functions that find where the gap, and where the token
// ends that begins at an offset of a source. An end that is the offset itself
// says that nothing of that kind begins there.
func ends(source string) (gapEnd, tokenEnd func(at int) int) {
	blanksEnd := stretch(source, oneOf(blank))
	commentEnd := stretch(source, func(b byte) bool { return b != '\n' })
	gapEnd = func(at int) int {
		at = blanksEnd(at)
		for at < len(source) && source[at] == '#' {
			at = blanksEnd(commentEnd(at))
		}
		return at
	}

	wordEnd := stretch(source, oneOf(letter|digit))
	numberEnd := stretch(source, oneOf(digit))
	tokenEnd = func(at int) int {
		switch first := roles(source[at]); {
		case first&letter != 0:
			return wordEnd(at)
		case first&digit != 0:
			return numberEnd(at)
		}
		return at + signLength(source[at:])
	}
	return gapEnd, tokenEnd
}

// stretch returns the function that finds the end of a stretch of bytes that
// are admitted, from an offset on.
func stretch(source string, admitted func(b byte) bool) func(at int) int {
	return func(at int) int {
		for at < len(source) && admitted(source[at]) {
			at++
		}
		return at
	}
}

// oneOf returns the function that reports whether a byte has one of some roles.
func oneOf(wanted byte) func(b byte) bool {
	return func(b byte) bool { return roles(b)&wanted != 0 }
}

// signLength returns the length of the longest sign that a text, which is not
// empty, begins with: 0 if there is none.
func signLength(text string) int {
	first := roles(text[0])
	if len(text) > 1 {
		second := text[1]
		if second == '=' && first&beforeEquals != 0 || second == text[0] && first&doubled != 0 {
			return 2
		}
	}
	if first&sign != 0 {
		return 1
	}
	return 0
}
