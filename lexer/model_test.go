package lexer_test

import (
	"math/big"
	"math/rand"
	"regexp"
	"slices"
	"strconv"
	"strings"
	"testing"

	"formfinder/api"
	"formfinder/lexer"
)

// expression compiles a regular expression that finds the longest text, at the beginning of what it is given.
func expression(text string) *regexp.Regexp {
	r := regexp.MustCompile("^(?:" + text + ")")
	r.Longest()
	return r
}

var (
	gap    = expression(`([ \t\n]|#[^\n]*)*`)
	word   = expression(`[a-z][a-z0-9]*`)
	width  = expression(`u([1-9]|[1-5][0-9]|6[0-4])$`)
	number = expression(`[0-9]+`)
	sign   = expression(strings.Join(quoted(), "|"))
)

// signs are all signs, as the chapter lists them.
var signs = strings.Fields("== != <= >= << >> { } ( ) [ ] , ; : . = < > + - * / % & | ^ ~")

func quoted() []string {
	var l []string
	for _, s := range signs {
		l = append(l, regexp.QuoteMeta(s))
	}
	return l
}

// model is Lex as the chapter says it, with regular expressions and numbers of any size.
func model(source string) ([]api.Token, api.Errno, int) {
	if len(source) > 4000 {
		return nil, api.ErrLimit, 0
	}
	var l []api.Token
	for at := len(gap.FindString(source)); at < len(source); {
		rest := source[at:]
		text := word.FindString(rest) + number.FindString(rest) + sign.FindString(rest)
		switch {
		case text == "":
			return nil, api.ErrSyntax, at
		case len(l) == 1500:
			return nil, api.ErrLimit, at
		case width.MatchString(text):
			w, _ := strconv.Atoi(text[1:])
			l = append(l, api.Token{Kind: api.TokType, N: uint64(w), At: at})
		case word.MatchString(text) && len(text) > 12:
			return nil, api.ErrRange, at
		case word.MatchString(text):
			l = append(l, api.Token{Kind: api.TokName, Text: text, At: at})
		case sign.MatchString(text):
			l = append(l, api.Token{Kind: api.TokPunct, Text: text, At: at})
		case text[0] == '0' && text != "0":
			return nil, api.ErrSyntax, at
		default:
			n, _ := new(big.Int).SetString(text, 10)
			if !n.IsUint64() {
				return nil, api.ErrRange, at
			}
			l = append(l, api.Token{Kind: api.TokNumber, N: n.Uint64(), At: at})
		}
		at += len(text)
		at += len(gap.FindString(source[at:]))
	}
	return l, api.OK, 0
}

// result is what Lex returns.
type result struct {
	tokens []api.Token
	e      api.Errno
	at     int
}

func lexed(source string) result {
	tokens, e, at := lexer.Lex(source)
	return result{tokens, e, at}
}

func refused(e api.Errno, at int) result { return result{nil, e, at} }

func (r result) equal(s result) bool {
	return slices.Equal(r.tokens, s.tokens) && r.e == s.e && r.at == s.at
}

// expect fails the test unless a source has a result.
func expect(t *testing.T, source string, want result) {
	t.Helper()
	if got := lexed(source); !got.equal(want) {
		t.Fatalf("%q: %v; want %v", short(source), got, want)
	}
}

// tokensOf are the tokens of a source that has no error.
func tokensOf(t *testing.T, source string) []api.Token {
	t.Helper()
	r := lexed(source)
	if r.e != api.OK || r.at != 0 {
		t.Fatalf("%q: error %d at %d", short(source), r.e, r.at)
	}
	return r.tokens
}

func short(source string) string {
	if len(source) > 200 {
		return source[:100] + " ... " + source[len(source)-100:]
	}
	return source
}

// textOf is the text of a token, as it stands in a source.
func textOf(token api.Token) string {
	switch token.Kind {
	case api.TokType:
		return "u" + strconv.FormatUint(token.N, 10)
	case api.TokNumber:
		return strconv.FormatUint(token.N, 10)
	}
	return token.Text
}

// moved are tokens whose offsets from one on are greater by a number.
func moved(tokens []api.Token, from, by int) []api.Token {
	l := slices.Clone(tokens)
	for i := range l {
		if l[i].At >= from {
			l[i].At += by
		}
	}
	return l
}

// pieces are what random sources are put together from: most of them are tokens or gaps.
var pieces = append([]string{
	" ", "\t", "\n", " \n\t ", "# a b 1 !\n", "#\n", "##\xff\x00\r\n\n", "#é",
	"let", "x", "in", "u", "u1", "u8", "u64", "u65", "u0", "u08", "u8a", "au8", "abcdefghijkl", "abcdefghijklm", "u123456789012",
	"0", "1", "7", "10", "07", "00", "255", "18446744073709551615", "18446744073709551616", "99999999999999999999999",
	"=", "<", ">", "!",
}, signs...)

// wrong are bytes that begin no token, and belong to no gap, whatever follows them.
var wrong = []string{"A", "Z", "_", "\r", "\v", "\f", "\x00", "\x7f", "\x80", "\xff", "é", "ſ", "٣", "\u00a0", "\"", "'", "`", "$", "@", "?", "\\"}

// random are sources of pieces, of which every few may be wrong, in an order that is always the same.
func random(seed int64, many, wrongOnes int) []string {
	r := rand.New(rand.NewSource(seed))
	var l []string
	for range many {
		var b strings.Builder
		for range r.Intn(20) {
			if r.Intn(100) < wrongOnes {
				b.WriteString(wrong[r.Intn(len(wrong))])
			} else {
				b.WriteString(pieces[r.Intn(len(pieces))])
			}
		}
		l = append(l, b.String())
	}
	return l
}

// faultless are random sources without an error.
func faultless(seed int64, many int) []string {
	return slices.DeleteFunc(random(seed, many, 0), func(s string) bool {
		_, e, _ := lexer.Lex(s)
		return e != api.OK
	})
}

// faulty are random sources with an error.
func faulty(seed int64, many int) []string {
	return slices.DeleteFunc(random(seed, many, 5), func(s string) bool {
		_, e, _ := lexer.Lex(s)
		return e == api.OK
	})
}
