package lexer_test

import (
	"math"
	"slices"
	"strconv"
	"strings"
	"testing"

	"formfinder/api"
)

// isGap reports whether a text consists of gaps. A comment may stand at its end if the end is that of the source, too.
func isGap(text string, end bool) bool {
	for text != "" {
		if text[0] != '#' {
			if !strings.Contains(" \t\n", text[:1]) {
				return false
			}
			text = text[1:]
			continue
		}
		_, rest, closed := strings.Cut(text, "\n")
		if !closed && !end {
			return false
		}
		text = rest
	}
	return true
}

// P2.2
func TestCover(t *testing.T) {
	sources := append(faultless(10, 20000), "let x=in[2]<<u16(3:u8);", "a#b c\n d # e", strings.Repeat("a;", 700))
	for _, s := range sources {
		end := 0
		for _, x := range tokensOf(t, s) {
			if x.At < end || !isGap(s[end:x.At], false) {
				t.Fatalf("%q: %v is not behind a gap", s, x)
			}
			if !strings.HasPrefix(s[x.At:], textOf(x)) || textOf(x) == "" {
				t.Fatalf("%q: %v does not stand at its offset", s, x)
			}
			end = x.At + len(textOf(x))
		}
		if !isGap(s[end:], true) {
			t.Fatalf("%q: no gap from %d on", s, end)
		}
	}
}

// gaps can be inserted before a token.
var gaps = []string{" ", "\t", "\n", "#\n", "# let x = 007 !\xff\n", " #a\n\t#b\n ", "  "}

// P2.3
func TestInsertedGaps(t *testing.T) {
	for _, s := range append(faultless(20, 2000), "", "a", "let x=in[2]<<u16(3:u8);", "a<<=1>>=2==3!=4") {
		tokens := tokensOf(t, s)
		for _, g := range gaps {
			for _, x := range tokens {
				expect(t, s[:x.At]+g+s[x.At:], result{tokens: moved(tokens, x.At, len(g))})
			}
		}
		for _, g := range append([]string{"#", "# a 1 !", "\n#\x00"}, gaps...) {
			expect(t, s+g, result{tokens: tokens})
		}
	}
}

// P2.3: a gap before the wrong token moves the error; one behind it changes nothing.
func TestInsertedGapsBeforeErrors(t *testing.T) {
	for _, s := range append(faulty(21, 2000), "a!b", "1 007", "abcdefghijklm", strings.Repeat(";", 1501)) {
		r := lexed(s)
		for _, g := range gaps {
			expect(t, s[:r.at]+g+s[r.at:], refused(r.e, r.at+len(g)))
			expect(t, s+g, r)
		}
	}
}

// P2.3: as long as the source is not too long.
func TestInsertedGapsAtTheLimit(t *testing.T) {
	s := "a" + strings.Repeat(" ", 3998)
	expect(t, s+" ", found(name("a", 0)))
	expect(t, " "+s, found(name("a", 1)))
	expect(t, s+"  ", refused(api.ErrLimit, 0))
	expect(t, "#\n"+s, refused(api.ErrLimit, 0))
}

// P2.4
func TestJoined(t *testing.T) {
	sources := append(faultless(30, 600), "", " ", "# a", "#", "a", "1", "u8", "=", "<", "!=", "let x=in[2]<<u16(3:u8);")
	for i, a := range sources {
		for j := range 40 {
			b := sources[(i+j*j)%len(sources)]
			want := append(slices.Clone(tokensOf(t, a)), moved(tokensOf(t, b), 0, len(a)+1)...)
			expect(t, a+"\n"+b, result{tokens: want})
		}
	}
}

// P2.4: unless there are too many bytes or tokens.
func TestJoinedLimits(t *testing.T) {
	bytes := strings.Repeat(" ", 2000)
	expect(t, bytes+"\n"+bytes[1:], found())
	expect(t, bytes+"\n"+bytes, refused(api.ErrLimit, 0))
	tokens := strings.Repeat(";", 750)
	if n := len(tokensOf(t, tokens+"\n"+tokens)); n != 1500 {
		t.Errorf("%d tokens", n)
	}
	expect(t, tokens+"\n"+tokens+"a", refused(api.ErrLimit, 1501))
}

// written is the texts of tokens, each followed by a blank.
func written(tokens []api.Token) string {
	var b strings.Builder
	for _, x := range tokens {
		b.WriteString(textOf(x) + " ")
	}
	return b.String()
}

// P2.5
func TestWriting(t *testing.T) {
	for _, s := range append(faultless(40, 20000), "", "let x=in[2]<<u16(3:u8);", "====", "<<<=", "12ab", "1u8") {
		tokens := tokensOf(t, s)
		text, at := written(tokens), 0
		want := slices.Clone(tokens)
		for i, x := range tokens {
			want[i].At = at
			at += len(textOf(x)) + 1
		}
		expect(t, text, result{tokens: want})
		if again := written(tokensOf(t, text)); again != text {
			t.Fatalf("%q is written as %q", text, again)
		}
	}
	longest := strings.Repeat("abc", 4) + " "
	many := strings.Repeat(longest, 307)
	if s := many + "abcdefgh "; len(s) != 4000 || written(tokensOf(t, s)) != s {
		t.Errorf("%d bytes are not written as they are", len(s))
	}
	expect(t, many+"abcdefghi ", refused(api.ErrLimit, 0))
}

// P2.6
func TestErrors(t *testing.T) {
	sources := append(faulty(50, 20000), "a!b", "007", "18446744073709551616", "abcdefghijklm", strings.Repeat(";", 1501)+"!", "u8 \xff")
	seen := map[api.Errno]bool{}
	for _, s := range sources {
		r := lexed(s)
		seen[r.e] = true
		if r.at < 0 || r.at >= len(s) {
			t.Fatalf("%q: an error at %d", s, r.at)
		}
		tokensOf(t, s[:r.at])
		end := r.at + 1
		if text := word.FindString(s[r.at:]) + number.FindString(s[r.at:]) + sign.FindString(s[r.at:]); text != "" {
			end = r.at + len(text)
		}
		for _, rest := range []string{"", " ", "\n", ";", "+1", " a", "!", "# b", "\x00", "\xff\xfe", " 007 abcdefghijklm", strings.Repeat("+", 1600)} {
			expect(t, s[:end]+rest, r)
		}
	}
	for _, e := range []api.Errno{api.ErrLimit, api.ErrSyntax, api.ErrRange} {
		if !seen[e] {
			t.Errorf("no source with the error %d", e)
		}
	}
}

// P2.7
func TestTypes(t *testing.T) {
	types := map[string]uint64{}
	for w := uint64(1); w <= 64; w++ {
		types["u"+strconv.FormatUint(w, 10)] = w
	}
	words := []string{"u", "uu8", "u8u", "u8a", "ua8", "a8", "v8", "i8", "u00", "u000", "u00000000000", "u00000000008", "u64x", "u640", "u18446744073", "ux", "let", "in", "a", "z", "z9", "abcdefghijkl", "a12345678901"}
	for i := range 2000 {
		n := strconv.Itoa(i)
		words = append(words, "u"+n, "u0"+n, "u00"+n, "x"+n, "u"+n+"u", "uu"+n)
	}
	for _, s := range words {
		if w, isType := types[s]; isType {
			expect(t, s, found(typ(w, 0)))
		} else {
			expect(t, s, found(name(s, 0)))
		}
	}
	for _, s := range []string{"U8", "8u"} {
		if r := lexed(s); len(r.tokens) > 0 && r.tokens[0].Kind == api.TokType {
			t.Errorf("%q begins with a type", s)
		}
	}
}

// P2.7: words that are longer than names, one of which would be a width but for its zeros.
func TestLongWords(t *testing.T) {
	for n := 1; n <= 40; n++ {
		for _, s := range []string{strings.Repeat("a", n), "u" + strings.Repeat("0", n-1) + "8", "z" + strings.Repeat("9", n-1), "u18446744073709551624"} {
			switch {
			case s == "u8":
				expect(t, s, found(typ(8, 0)))
			case len(s) <= 12:
				expect(t, s, found(name(s, 0)))
			default:
				expect(t, s, refused(api.ErrRange, 0))
				expect(t, "(\n"+s+")", refused(api.ErrRange, 2))
			}
		}
	}
}

// numbers are all small values, and those next to powers of 2 and of 10.
func numbers() []uint64 {
	l := []uint64{math.MaxUint64, math.MaxUint64 - 1, math.MaxUint64/10 - 1, math.MaxUint64 / 10, math.MaxUint64/10 + 1, 12345678901234567890}
	for n := range uint64(3000) {
		l = append(l, n)
	}
	for i := range 64 {
		l = append(l, 1<<i-1, 1<<i, 1<<i+1)
	}
	for p := uint64(1); p <= math.MaxUint64/10; p *= 10 {
		l = append(l, p*10-1, p*10, p*10+1)
	}
	return l
}

// P2.8
func TestNumbers(t *testing.T) {
	for _, n := range numbers() {
		s := strconv.FormatUint(n, 10)
		expect(t, s, found(num(n, 0)))
		expect(t, "\t"+s+"#", found(num(n, 1)))
		for _, zeros := range []string{"0", "00", strings.Repeat("0", 30)} {
			expect(t, zeros+s, refused(api.ErrSyntax, 0))
			expect(t, "["+zeros+s+"]", refused(api.ErrSyntax, 1))
		}
		for d := range uint64(10) {
			further := s + strconv.FormatUint(d, 10)
			switch {
			case n == 0:
				expect(t, further, refused(api.ErrSyntax, 0))
			case n > math.MaxUint64/10 || n == math.MaxUint64/10 && d > math.MaxUint64%10:
				expect(t, further, refused(api.ErrRange, 0))
			default:
				expect(t, further, found(num(10*n+d, 0)))
			}
		}
	}
	expect(t, strings.Repeat("9", 4000), refused(api.ErrRange, 0))
	expect(t, "1"+strings.Repeat("0", 3999), refused(api.ErrRange, 0))
	expect(t, strings.Repeat("0", 4000), refused(api.ErrSyntax, 0))
	expect(t, "36893488147419103232", refused(api.ErrRange, 0))
}
