package lexer

// What a byte can be in a source. A byte may have several of these roles.
const (
	blank        = 1 << iota // in a gap
	letter                   // in a word
	digit                    // in a number, and in a word behind its first byte
	sign                     // a sign by itself
	beforeEquals             // a sign together with = behind it
	doubled                  // a sign together with the same byte behind it
)

// table has the roles of the bytes that have some. The mark of a comment is
// not among them: what follows it is not told by its bytes.
var table = [128]byte{
	'\t': blank, '\n': blank, ' ': blank,

	'a': letter, 'b': letter, 'c': letter, 'd': letter, 'e': letter, 'f': letter, 'g': letter,
	'h': letter, 'i': letter, 'j': letter, 'k': letter, 'l': letter, 'm': letter, 'n': letter,
	'o': letter, 'p': letter, 'q': letter, 'r': letter, 's': letter, 't': letter, 'u': letter,
	'v': letter, 'w': letter, 'x': letter, 'y': letter, 'z': letter,

	'0': digit, '1': digit, '2': digit, '3': digit, '4': digit,
	'5': digit, '6': digit, '7': digit, '8': digit, '9': digit,

	'{': sign, '}': sign, '(': sign, ')': sign, '[': sign, ']': sign,
	',': sign, ';': sign, ':': sign, '.': sign,
	'+': sign, '-': sign, '*': sign, '/': sign, '%': sign,
	'&': sign, '|': sign, '^': sign, '~': sign,

	'=': sign | beforeEquals,
	'!': beforeEquals,
	'<': sign | beforeEquals | doubled,
	'>': sign | beforeEquals | doubled,
}

// roles returns what a byte can be: nothing, for most bytes.
func roles(b byte) byte {
	if int(b) >= len(table) {
		return 0
	}
	return table[b]
}
