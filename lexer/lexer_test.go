package lexer_test

import (
	"math/rand"
	"strings"
	"testing"

	"formfinder/api"
	"formfinder/lexer"
)

func name(text string, at int) api.Token { return api.Token{Kind: api.TokName, Text: text, At: at} }
func num(n uint64, at int) api.Token     { return api.Token{Kind: api.TokNumber, N: n, At: at} }
func typ(w uint64, at int) api.Token     { return api.Token{Kind: api.TokType, N: w, At: at} }
func punct(text string, at int) api.Token {
	return api.Token{Kind: api.TokPunct, Text: text, At: at}
}

func found(tokens ...api.Token) result { return result{tokens: tokens} }

// P2.1: the examples of the chapter.
func TestExamples(t *testing.T) {
	expect(t, "let x=in[2]<<u16(3:u8);", found(
		name("let", 0), name("x", 4), punct("=", 5), name("in", 6), punct("[", 8), num(2, 9), punct("]", 10), punct("<<", 11),
		typ(16, 13), punct("(", 16), num(3, 17), punct(":", 18), typ(8, 19), punct(")", 21), punct(";", 22)))
	expect(t, "u65 u0 u08", found(name("u65", 0), name("u0", 4), name("u08", 7)))
	expect(t, "a!b", refused(api.ErrSyntax, 1))
	expect(t, "007", refused(api.ErrSyntax, 0))
	expect(t, "18446744073709551616", refused(api.ErrRange, 0))
}

// P2.1: gaps
func TestGaps(t *testing.T) {
	for _, s := range []string{"", " ", "\t", "\n", " \t\n ", "#", "##", "# a", "# a\n", "#\n#\n", " # !\x00\xff\r é 007\n\t#", "#a\n#b\n\n"} {
		expect(t, s, found())
		if strings.Contains(s, "#") && !strings.HasSuffix(s, "\n") {
			expect(t, s+"a", found())
			s += "\n"
		}
		expect(t, s+"a", found(name("a", len(s))))
		expect(t, "a"+s, found(name("a", 0)))
	}
	expect(t, "a#b\nc", found(name("a", 0), name("c", 4)))
	expect(t, "a#b\r\nc", found(name("a", 0), name("c", 5)))
	expect(t, "1#2#3", found(num(1, 0)))
	expect(t, "1#2\n#3\n!", refused(api.ErrSyntax, 7))
}

// P2.1: each byte by itself, between names, and in a comment.
func TestBytes(t *testing.T) {
	for i := range 256 {
		s := string([]byte{byte(i)})
		want := refused(api.ErrSyntax, 0)
		middle := refused(api.ErrSyntax, 1)
		switch {
		case strings.Contains(" \t\n", s):
			want, middle = found(), found(name("x", 0), name("y", 2))
		case s == "#":
			want, middle = found(), found(name("x", 0))
		case 'a' <= i && i <= 'z':
			want, middle = found(name(s, 0)), found(name("x"+s+"y", 0))
		case '0' <= i && i <= '9':
			want, middle = found(num(uint64(i-'0'), 0)), found(name("x"+s+"y", 0))
		case strings.Contains("{}()[],;:.=<>+-*/%&|^~", s):
			want, middle = found(punct(s, 0)), found(name("x", 0), punct(s, 1), name("y", 2))
		}
		expect(t, s, want)
		expect(t, "x"+s+"y", middle)
		if s != "\n" {
			expect(t, "x#"+s+"y\nz", found(name("x", 0), name("z", 5)))
		}
	}
}

// P2.1: signs are as long as possible.
func TestSigns(t *testing.T) {
	for _, s := range signs {
		expect(t, s, found(punct(s, 0)))
		expect(t, "a"+s+"1", found(name("a", 0), punct(s, 1), num(1, 1+len(s))))
	}
	for s, want := range map[string][]string{
		"===": {"==", "="}, "====": {"==", "=="}, "!==": {"!=", "="}, "!===": {"!=", "=="}, "=!=": {"=", "!="},
		"<<<": {"<<", "<"}, "<<=": {"<<", "="}, "<=<": {"<=", "<"}, "<==": {"<=", "="}, "<>": {"<", ">"}, "<=>": {"<=", ">"},
		">>>": {">>", ">"}, ">>=": {">>", "="}, ">=>": {">=", ">"}, ">>>>=": {">>", ">>", "="}, "><": {">", "<"}, "=<": {"=", "<"}, "=>": {"=", ">"},
		"= =": {"=", "="}, "< <": {"<", "<"}, "> =": {">", "="}, "<#\n<": {"<", "<"}, "=\n=": {"=", "="},
		"++": {"+", "+"}, "--": {"-", "-"}, "&&": {"&", "&"}, "||": {"|", "|"}, "+=": {"+", "="}, "::": {":", ":"}, "..": {".", "."}, "~=": {"~", "="}, "//": {"/", "/"},
	} {
		var l []string
		for _, x := range tokensOf(t, s) {
			l = append(l, textOf(x))
		}
		if strings.Join(l, " ") != strings.Join(want, " ") {
			t.Errorf("%q: %q; want %q", s, l, want)
		}
	}
	expect(t, "!", refused(api.ErrSyntax, 0))
	expect(t, "!!=", refused(api.ErrSyntax, 0))
	expect(t, "! =", refused(api.ErrSyntax, 0))
	expect(t, "!=!", refused(api.ErrSyntax, 2))
	expect(t, "<!", refused(api.ErrSyntax, 1))
	expect(t, "!<", refused(api.ErrSyntax, 0))
}

// P2.1: what follows a token directly may be another one.
func TestNeighbours(t *testing.T) {
	expect(t, "12ab", found(num(12, 0), name("ab", 2)))
	expect(t, "1u8", found(num(1, 0), typ(8, 1)))
	expect(t, "0x10", found(num(0, 0), name("x10", 1)))
	expect(t, "ab12", found(name("ab12", 0)))
	expect(t, "a1b2", found(name("a1b2", 0)))
	expect(t, "u8u8", found(name("u8u8", 0)))
	expect(t, "1.5", found(num(1, 0), punct(".", 1), num(5, 2)))
	expect(t, "-1", found(punct("-", 0), num(1, 1)))
	expect(t, "18446744073709551615u64", found(num(1<<64-1, 0), typ(64, 20)))
}

// P2.1: the longest source.
func TestSourceLimit(t *testing.T) {
	expect(t, strings.Repeat(" ", 3999)+"a", found(name("a", 3999)))
	expect(t, "a"+strings.Repeat("\n", 3999), found(name("a", 0)))
	expect(t, "#"+strings.Repeat("!", 3999), found())
	expect(t, strings.Repeat(" ", 3999)+"!", refused(api.ErrSyntax, 3999))
	for _, s := range []string{" ", "a", "#", "!", "007 ", "a;", "\xff"} {
		expect(t, strings.Repeat(s, 4001), refused(api.ErrLimit, 0))
		expect(t, s+strings.Repeat(" ", 4000), refused(api.ErrLimit, 0))
		expect(t, strings.Repeat(s, 1<<20), refused(api.ErrLimit, 0))
	}
}

// P2.1: the greatest number of tokens, and the order of the errors at one offset.
func TestTokenLimit(t *testing.T) {
	for _, s := range []string{";", "a ", "1 ", "u8 ", "=="} {
		full := strings.Repeat(s, 1500)
		if len(full) > 4000 {
			full = strings.Repeat(s, 1000) + strings.Repeat(";", 500)
		}
		if n := len(tokensOf(t, full)); n != 1500 {
			t.Fatalf("%q: %d tokens", s, n)
		}
		end := len(full)
		if n := len(tokensOf(t, full+" # the end\n")); n != 1500 {
			t.Fatalf("%q: %d tokens", s, n)
		}
		for _, next := range []string{",", "(", "a", "u8", "5", "007", "99999999999999999999", "abcdefghijklm", "!="} {
			expect(t, full+next, refused(api.ErrLimit, end))
			expect(t, full+" # more\n"+next+" !", refused(api.ErrLimit, end+8))
		}
		expect(t, full+"!", refused(api.ErrSyntax, end))
		expect(t, full+" @a", refused(api.ErrSyntax, end+1))
		expect(t, "! "+full+"a", refused(api.ErrSyntax, 0))
		expect(t, "00 "+full+"a", refused(api.ErrSyntax, 0))
		expect(t, "abcdefghijklm "+full+"a", refused(api.ErrRange, 0))
	}
}

// P2.1: the first error is reported, by its offset.
func TestFirstError(t *testing.T) {
	bad := []struct {
		text string
		e    api.Errno
	}{
		{"!", api.ErrSyntax}, {"A", api.ErrSyntax}, {"\xff", api.ErrSyntax}, {"00", api.ErrSyntax}, {"099999999999999999999", api.ErrSyntax},
		{"abcdefghijklm", api.ErrRange}, {"u0000000000001", api.ErrRange}, {"18446744073709551616", api.ErrRange},
	}
	for _, x := range bad {
		for _, y := range bad {
			expect(t, x.text+" "+y.text, refused(x.e, 0))
			expect(t, "a = "+x.text+"; "+y.text, refused(x.e, 4))
			expect(t, "# "+y.text+"\n"+x.text, refused(x.e, len(y.text)+3))
		}
	}
	expect(t, "abcdefghijklmA", refused(api.ErrRange, 0))
	expect(t, "abcdefghijklA", refused(api.ErrSyntax, 12))
	expect(t, "00A", refused(api.ErrSyntax, 0))
	expect(t, "0A", refused(api.ErrSyntax, 1))
}

// P2.1, P1: all short sources of bytes of each sort.
func TestShortSources(t *testing.T) {
	const sorts = "\n #a8u0169=<>!+;A\xc3"
	level := []string{""}
	for range 4 {
		var longer []string
		for _, s := range level {
			for i := range len(sorts) {
				longer = append(longer, s+sorts[i:i+1])
			}
		}
		for _, s := range longer {
			tokens, e, at := model(s)
			expect(t, s, result{tokens, e, at})
		}
		level = longer
	}
}

// P2.1, P1: random sources, of pieces and of bytes.
func TestRandomSources(t *testing.T) {
	check := func(s string) {
		tokens, e, at := model(s)
		expect(t, s, result{tokens, e, at})
	}
	for _, s := range random(1, 20000, 0) {
		check(s)
	}
	for _, s := range random(2, 20000, 5) {
		check(s)
	}
	for i, s := range random(3, 200, 0) {
		check(strings.Repeat(s+"\n", 1+i))
	}
	r := rand.New(rand.NewSource(4))
	for range 20000 {
		b := make([]byte, r.Intn(12))
		r.Read(b)
		check(string(b))
	}
}

// P1: a call neither changes what an earlier one returned, nor depends on it.
func TestCallsAreIndependent(t *testing.T) {
	const source = "let x=in[2]<<u16(3:u8);"
	first := tokensOf(t, source)
	for i := range first {
		first[i] = api.Token{}
	}
	second := tokensOf(t, source)
	lexer.Lex(strings.Repeat("a;", 700))
	lexer.Lex("a!b")
	tokens, e, at := model(source)
	if got := (result{second, api.OK, 0}); !got.equal(result{tokens, e, at}) {
		t.Errorf("%v", got)
	}
}
