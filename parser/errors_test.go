package parser_test

import (
	"math/rand"
	"slices"
	"strings"
	"testing"

	"formfinder/api"
	"formfinder/parser"
)

// marked is a text without marks, and the diagnostics that they stand for: @ is ErrSyntax, and $ ErrDeep, at the next byte that is no blank, or at the end.
func marked(text string) (string, []api.Diag) {
	var b strings.Builder
	var diags []api.Diag
	placed := 0
	for _, c := range []byte(text) {
		switch c {
		case '@':
			diags = append(diags, api.Diag{Err: api.ErrSyntax})
			continue
		case '$':
			diags = append(diags, api.Diag{Err: api.ErrDeep})
			continue
		}
		for c != ' ' && placed < len(diags) {
			diags[placed].At = b.Len()
			placed++
		}
		b.WriteByte(c)
	}
	for i := range diags[placed:] {
		diags[placed+i].At = b.Len()
	}
	return b.String(), diags
}

// expectMarked fails the test unless texts have the diagnostics that are marked, by the model, too.
func expectMarked(t *testing.T, texts ...string) {
	t.Helper()
	for _, text := range texts {
		source, want := marked(text)
		expectDiags(t, source, want)
		if l := model(source); !slices.Equal(l, want) {
			t.Fatalf("%q: the model says %v", text, l)
		}
	}
}

// P3.1, C1: errors are at the first token that cannot go on, in each part.
func TestErrorsInStatements(t *testing.T) {
	for _, text := range []string{
		"let @= a;", "let @if = a;", "let @u8 = a;", "let @7 = a;", "let x @a;", "let x @== a;", "let x = @;", "let x = a@ b;", "let x = @slt;", "let x @: u8;",
		"x @a;", "x@;", "x @== a;", "x @+ a;", "x@(a);", "x = @=;", "x[@] = a;", "x[a @= b;", "x[a]@;", "x[a]@.b = c;", "x.@1 = a;", "x.@len = a;", "x.y@.z = a;", "x.y@[a] = b;", "x.y@;",
		"new @: u8[a];", "new x @u8[a];", "new x: @y[a];", "new x: @8[a];", "new x: u8 @a;", "new x: u8[@];", "new x: u8[a@;", "new x: u8[a]@ = b;", "new x: u8@;", "new x: @u65[a];",
		"make x@ = y;", "make x: @u8;", "make x: @7;", "make @;", "make x: y@[a];", "free @;", "free x@, y;", "free x@.y;", "free @7;", "free @accept;",
		"same x@: y;", "same x = @7;", "same x = y@.z;", "same x = @in[a];", "same @;",
		"if @{ accept; }", "if a @accept;", "if a { } else @accept;", "if a { } else @if b { }", "if a { } else { } @else { }", "if (a@) { }", "if a@;", "if @;", "if a @b { }",
		"while @{ }", "while a @accept;", "while a { } @else { }", "while (a@) { }",
		"emit @= a;", "emit x@: a;", "emit x = @;", "emit x@.y = a;", "emit @len = a;",
		"accept@ 1;", "accept@(1);", "reject@;", "reject @a;", "reject @u8;", "reject 1@:u8;", "reject 1@ 2;", "reject @~1;", "return@;", "return a@, b;", "return u8@;",
		"@;", "@{ }", "@{ accept; }", "@else { }", "@in[a] = b;", "@len = a;", "@slt = a;", "@sext u8(a);", "@7 = a;", "@u8 = a;", "@u8(a);", "@(a + b);", "@~a;", "@: a;", "@, a;", "@= a;", "@] ;", "@) ;",
	} {
		expectMarked(t, "parse { "+text+" }", "parse { "+text+" accept; }", "func f() u8 { free x; "+text+" reject 1; } parse { }", "parse { if a { } else { "+text+" } while a { "+text+" free x; } "+text+" }")
	}
}

// P3.1, C1
func TestErrorsInExpressions(t *testing.T) {
	for _, text := range []string{
		"7@", "7@ u8", "7:@8", "7:@a", "7:@u65", "7@(a)", "7:u8@ a", "7:u8@[a]", "7:u8@(a)", "7:u8@:u8",
		"a@ b", "a@:u8", "a[@]", "a[b@", "a[b@, c]", "a[b]@[c]", "a[b]@.c", "a[b]@(c)", "a.@7", "a.@u8", "a.@in", "a.b@.c", "a.b@(c)", "a.b@[c]", "a@~", "a@+b", "a@ slt b",
		"a(@,)", "a(b@", "a(b@ c)", "a(b,@)", "a(b,@, c)", "a(b)@(c)", "a()@[b]", "a(b@]",
		"in@", "in@(a)", "in@ a", "in[@]", "in[a@", "in[a@, b]", "in[a]@[b]", "len@[a]", "len@(a)", "len@:u8", "len@ len",
		"(@)", "(a@)", "(a@ b)", "(a +@)", "(a + b@", "(a + b@ + c)", "(a @~ b)", "(a @= b)", "(a . b@)", "(@+ b)", "(a + @- b)", "((a + b)@)", "(a + b)@ + c", "(a @, b)", "(a slt @slt b)", "(a @in b)",
		"~@", "~@)", "~~@+", "~@=", "~a@ b", "u8@", "u8@ a", "u8(@)", "u8(a@", "u8(a@, b)", "u8(a)@(b)", "u8@:8", "u8(u8@)",
		"sext@", "sext @(a)", "sext @a(b)", "sext u8@ a", "sext u8(@)", "sext u8(a@", "sext u8(a)@ b", "sext @u65(a)", "sext @sext u8(a)",
		"@", "@if", "@]", "@)", "@,", "@:", "@.", "@slt", "@let", "@else", "@*", "@=",
	} {
		expectMarked(t, "parse { x = "+text+"; accept; }", "parse { if "+text+" { ; } else { ; } @; }", "func f() u8 { emit x = "+text+"; @; } parse { }")
	}
}

// P3.1, C1: errors outside of blocks, behind which the next item is read, or parse.
func TestErrorsOutsideOfBlocks(t *testing.T) {
	for _, text := range []string{
		"struct @{ a: u8 }", "struct @7 { a: u8 }", "struct @len { a: u8 }", "struct s @a: u8 }", "struct s { @}", "struct s { a@ }", "struct s { a@, b: u8 }", "struct s { a: @b }", "struct s { a: @8 }", "struct s { a: u8@; b: u8 }", "struct s { a: u8, @}", "struct s { a: u8@ b: u8 }", "struct s { @, a: u8 }", "struct s { a: u8@ ", "struct@", "struct s@", "struct s {@", "struct s { a: u8,@", "struct s { a: u8 } @;", "struct s { a: u8 } @}", "struct s { @u8: a }",
		"func @() u8 { }", "func f@ u8 { }", "func f(@", "func f(@,) u8 { }", "func f(@7) u8 { }", "func f(a@) u8 { }", "func f(a: @b) u8 { }", "func f(a: u8@", "func f(a: u8@ b: u8) u8 { }", "func f(a: u8, @) u8 { }", "func f(a: u8@; b: u8) u8 { }", "func f()@ { }", "func f() @f { }", "func f() u8@;", "func f() u8 @accept;", "func f() u8@ u8 { }", "func f() u8 { } @}", "func f() u8 { } @{ }", "func f() u8 { } @;", "func@", "func @u8() f { }", "func f() @( { free x; }", "func f(a: u8) @{ return a; }",
		"@x", "@}", "@{", "@;", "@{ } }", "@let a = b;", "@accept;", "@if a { } else { }", "@( ) ; } { x", "@u8", "@7", "@else", "@=", "@in", "@reject } } {",
		"parse@", "parse @(", "parse @x { }", "parse @;", "parse @}", "parse @if a { }",
	} {
		expectMarked(t, text+" parse { }", "func f() u8 { } "+text+" struct s { a: u8 } parse { accept; }", text+" func f() u8 { "+"let @; } "+text+" parse { @; }")
	}
	expectMarked(t, "@", "@x", "@x y z", "@} ; { ( struc", "struct@", "func f()@", "parse@", "struct s { a: u8 }@", "func f() u8 { }@", "struct s { @} x y", "struct s @; func f@; parse @; struct @")
}

// P3.1, C1: an error at a token that begins an item.
func TestErrorsAtHeads(t *testing.T) {
	expectMarked(t, "struct @struct s { a: u8 } parse { }", "struct s @func f() u8 { } parse { }", "struct s { @parse { }", "struct s { a: @parse { accept; }", "struct s { a: u8@ parse { @; }",
		"func @func f() u8 { } parse { }", "func f(@struct s { a: u8 } parse { }", "func f(a: u8, @parse { }", "func f() @parse { }", "func f() u8 @parse { }", "func f() u8 @func f() u8 { } parse { }",
		"parse @parse { }", "parse @struct s { a: u8 } parse { }", "parse @func f() u8 { } parse { @7; }", "parse @parse @parse@", "parse @func@", "struct @func @struct @parse@")
}

// P3.1, C1: what follows the block of parse.
func TestErrorsBehindParse(t *testing.T) {
	expectMarked(t, "parse { } @x", "parse { } @}", "parse { } @;", "parse { }@}}}", "parse { } @parse { }", "parse { } @struct s { }", "parse { } @func f( {", "parse { accept; } @accept; }", "parse { @; } @; ;", "parse { let a = @; } @7 x y { } parse { ; }",
		"func f() u8 { } @} parse { } @} }", "parse @x parse { } @parse x")
}

// P3.1, C1: what is left out behind an error in a block.
func TestSkippedStatements(t *testing.T) {
	expectMarked(t,
		// up to a ; with it
		"parse { let @; @7; }", "parse { @; @; @; }", "parse { x = @) ] ( , : if else while; @; }", "parse { if a { } @; @; }",
		// not within braces
		"parse { @{ a; b; } @; }", "parse { x @{ a; { b; } ; } @; }", "parse { x = @{ } @; }", "parse { if @{ a; } @; }",
		// up to a } that closes the only brace, with it, unless else follows
		"parse { if @) { accept; } @; }", "parse { if @) { { } } @; }", "parse { if @) { { } { } ; } @; }", "parse { if @) { } else { ; } @; }", "parse { if @) { } else { } else { } @; }",
		"parse { if @) { } else ; @; }", "parse { if @) { } else x = 1; @; }", "parse { if @) { } else if b { } else { } @; }", "parse { if @) { { } else } @; }", "parse { @else { } @; }", "parse { @else { } else { } @; }", "parse { @{ } else { } @; }",
		"parse { if a { } else @if b { } else { } @; }", "parse { if a { } @; @; }",
		// up to a } while no brace is open, without it
		"parse { let @}", "parse { accept@ }", "parse { if a { let x = @} @; }", "parse { if a { let x = @} else { let @} @; }", "parse { while a { if b { @7 } @; } @; }", "parse { if @) { } else } @; }", "parse { @7 } @x",
		"func f() u8 { return @} parse { @; }", "func f() u8 { return ( @} func g() u8 { return @} parse { @; }",
		// the blocks that are left
		"parse { if a { if b { @; } @; } @; } @;", "parse { if a { x@ } else { y@ } z@ }",
		// the next statement, or }
		"parse { let a = @; accept; let b = @; reject 1; }", "parse { @; } @}",
	)
}

// P3.1, C1: heads of items, and the end of the tokens, end all blocks.
func TestBlocksThatEnd(t *testing.T) {
	expectMarked(t,
		"func f() u8 { @func g() u8 { @; } parse { @; }", "func f() u8 { let x = @struct s { a: u8 } parse { @; }", "func f() u8 { if a { while b { x = @parse { @; }",
		"func f() u8 { let x = @; let y = 1:u8; @parse { @; }", "func f() u8 { @{ { } { parse { @; }", "func f() u8 { if @) { { struct s { a: u8 } parse { }", "func f() u8 { if a { } else @parse { }",
		"func f() u8 { return @) func @) struct s { @} parse { @; }", "func f() u8 { @) x { y; struct@", "func f() u8 { x@, func f() u8 { @{ } }@",
		"func f() u8 { x = @parse { @; } @x", "func f() u8 { @) { parse @) parse { } @x", "func f() u8 {@", "func f() u8 { return @) x", "func f() u8 { if a {@", "func f() u8 { @{ { }",
		// the block of parse
		"parse { @parse { ; }", "parse { x = @func f( { } parse ; }", "parse { if a { @struct struct } ; } ;", "parse { @) { } @; @) struct } } ;", "parse { if a { let @} let @{ func } ; }",
		// the end of the tokens
		"parse {@", "parse { accept@", "parse { accept;@", "parse { let a = @;@", "parse { let a = @; x@", "parse { @) (", "parse { @{ ;", "parse { if @) { } else", "parse { if @) { }@", "parse { if @) { } else { }@", "parse { if a { if b {@", "parse { if a { if b { }@", "parse { if a { x@ }@", "parse { if a { } else@", "parse { if a@", "parse { if a { let @} } @else", "parse { x @} @}", "parse { x = (a + b  # the end@", "parse { x = @; # the end\n\t @")
}

// P3.1, C1: nothing is read after 20 diagnostics.
func TestTwentyDiagnostics(t *testing.T) {
	wrong := strings.Repeat("let @; ", 18)
	expectMarked(t, "parse { "+wrong+"@; @; ; }", "parse { "+wrong+"@; @; }", "parse { "+wrong+"@; @; } x", "parse { "+wrong+"@; } @x", "parse { "+wrong+"@; } @x } ;", "parse { "+wrong+"@; @; } ; func f() u8 { ; }",
		"parse { "+wrong+"@;@", "parse { "+wrong+"@; @;", "func f() u8 { "+wrong+"} parse { @; @; ; }", "func f() u8 { "+wrong+"@; @; } parse { ; }", "func f() u8 { "+wrong+"@; @; ; } x struct s { } parse { ; } x",
		strings.Repeat("struct @; ", 19)+"struct s { @} struct ; parse { ; }", strings.Repeat("struct @; ", 20)+"parse { }", strings.Repeat("struct @; ", 20)+"struct", strings.Repeat("struct @; ", 20), strings.Repeat("struct @; ", 19)+"parse { } @x", strings.Repeat("struct @; ", 20)+"parse { } x",
		"parse { if a { "+wrong+"while b { @; @; ; } ; } else { ; } ; } ;", "func f() u8 { "+wrong+"if a { @; } x = @func ( x func x parse x")
	for i := 15; i < 30; i++ {
		_, diags := parser.Parse("parse {" + strings.Repeat(";", i) + "}")
		if len(diags) != min(i, 20) {
			t.Errorf("%d diagnostics of %d", len(diags), i)
		}
	}
}

// P3.1, C1: ErrDeep is for what begins there, and ErrSyntax for what cannot.
func TestDeepErrors(t *testing.T) {
	deep := strings.Repeat("~", 9)
	for _, begin := range []string{"a", "7:u8", "len", "in[a]", "~a", "(a + b)", "u8(a)", "sext u8(a)", "a[b]", "a.b", "a()", "in", "7"} {
		expectMarked(t, "parse { x = "+deep+"$"+begin+"; @; }", "func f() u8 { return "+deep+"$"+begin+"; @; } parse { @; }", "parse { if "+deep+"$"+begin+" { ; } else { ; } @; }", "parse { if a { return "+deep[1:]+"$"+begin+"; } @; }")
	}
	for _, other := range []string{";", ")", "]", ",", "+", "slt", "if", "}", "{ }", "else { }", "= a;", "let a;"} {
		source, want := marked("parse { x = " + deep + "@" + other + " a; }")
		_, diags := parser.Parse(source)
		if len(diags) == 0 || diags[0] != want[0] {
			t.Errorf("%q: %v; want first %v", source, diags, want)
		}
		if !slices.Equal(diags, model(source)) {
			t.Errorf("%q: %v; want %v", source, diags, model(source))
		}
	}
	expectMarked(t, "parse { x = "+deep[1:]+"f(); @; }", "parse { x = "+deep[1:]+"f($a); @; }", "parse { x = "+deep[1:]+"f(@, a); @; }", "parse { x = "+deep[1:]+"f($a, b); @; }",
		"parse { x = "+deep[1:]+"a[$b]; @; }", "parse { x = "+deep[1:]+"a[@]; @; }", "parse { x = "+deep[1:]+"a.b; @; }", "parse { x = "+deep[1:]+"a; @; }", "parse { x = "+deep+"$a; y = "+deep+"$b; }", "parse { x = ("+deep[2:]+"a + "+deep[1:]+"$a); @; }",
		"parse { x[a["+deep[3:]+"b]] = "+deep[1:]+"a; x = "+deep[1:]+"a; x[a["+deep[1:]+"$b]] = a; x = "+deep[1:]+"a; x = "+deep+"$a; }")
	inner := strings.Repeat("if a { ", 9)
	outer := strings.Repeat("}", 10)
	expectMarked(t, "parse { "+inner+"free x; "+outer, "parse { "+inner+"if $a { ; } @; "+outer, "parse { "+inner+"while $a { ; } else { ; } @; "+outer, "parse { "+inner+"let x = $a; @; "+outer, "parse { "+inner+"x[$a] = a; "+outer, "parse { "+inner+"if @{ } "+outer, "parse { "+inner+"x = @; "+outer)
}

// P3.1, C1: a word more, less or another one, at each place of a program with all parts.
func TestChangedWords(t *testing.T) {
	words, _ := written(full(t))
	blank := func(int) string { return " " }
	check := func(words []string) {
		source, _ := placed(words, blank)
		expectDiags(t, source, model(source))
	}
	for i := range len(words) + 1 {
		for _, word := range append([]string{"+", "<<", ">="}, vocabulary[:len(vocabulary)-16]...) {
			check(slices.Insert(slices.Clone(words), i, word))
			check(append(slices.Clone(words[:i]), word))
			if i < len(words) {
				check(append(append(slices.Clone(words[:i]), word), words[i+1:]...))
			}
		}
		check(words[i:])
		for j := i; j < min(i+8, len(words)); j++ {
			check(append(slices.Clone(words[:i]), words[j:]...))
		}
	}
}

// P3.1, C1: all sequences of a few words that matter when a statement is left out.
func TestShortSequences(t *testing.T) {
	few := []string{"{", "}", ";", "if a", "else", "func f() u8", "parse", "x = a", "struct"}
	level := []string{""}
	for range 5 {
		var longer []string
		for _, s := range level {
			for _, word := range few {
				longer = append(longer, s+" "+word)
			}
		}
		for _, s := range longer {
			expectDiags(t, "parse {"+s, model("parse {"+s))
		}
		level = longer
		if len(level) > 10000 {
			continue
		}
		for _, s := range longer {
			for _, source := range []string{s, "parse {" + s + "}", "func f() u8 {" + s, "func f() u8 {" + s + "; } parse { ; }", "parse { if a {" + s + "} ; }", "parse { if ) {" + s + "} ; }"} {
				expectDiags(t, source, model(source))
			}
		}
	}
}

// P3.1, C1: random programs with errors.
func TestDamagedPrograms(t *testing.T) {
	r := rand.New(rand.NewSource(3))
	faulty := 0
	for _, n := range samples(1, 2000) {
		words, _ := written(n)
		for range 10 {
			source, _ := placed(damaged(r, words), func(int) string { return " " })
			want := model(source)
			expectDiags(t, source, want)
			if len(want) > 0 {
				faulty++
			}
		}
	}
	if faulty < 10000 {
		t.Error("few programs with errors:", faulty)
	}
}
