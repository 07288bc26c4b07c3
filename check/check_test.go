package check_test

import (
	"fmt"
	"math"
	"slices"
	"strings"
	"testing"

	"formfinder/api"
	"formfinder/check"
	"formfinder/parser"
)

// marks stand in texts before the tokens of nodes that have these errors.
var marks = map[byte]api.Errno{
	'N': api.ErrName, 'W': api.ErrWidth, 'K': api.ErrKind, 'T': api.ErrTwice,
	'L': api.ErrLimit, 'E': api.ErrEnd, 'C': api.ErrCount, 'R': api.ErrRange,
}

// marked is a text without marks, and the diagnostics that they stand for.
func marked(text string) (string, []api.Diag) {
	var b strings.Builder
	var diags []api.Diag
	for _, c := range []byte(text) {
		if e, found := marks[c]; found {
			diags = append(diags, api.Diag{Err: e, At: b.Len()})
			continue
		}
		b.WriteByte(c)
	}
	return b.String(), diags
}

// expectDiags fails the test unless a program has these diagnostics, by the model, too.
func expectDiags(t *testing.T, n api.Node, want []api.Diag) {
	t.Helper()
	if got := diagsOf(t, n); !slices.Equal(got, want) {
		t.Fatalf("%v:\n%v; want\n%v", n, got, want)
	}
	if got := model(n); !slices.Equal(got, want) {
		t.Fatalf("%v:\nthe model says %v; want\n%v", n, got, want)
	}
}

// expectMarked fails the test unless sources have the diagnostics that are marked in them.
func expectMarked(t *testing.T, texts ...string) {
	t.Helper()
	for _, text := range texts {
		source, want := marked(text)
		got, e := check.Check(treeOf(t, source))
		if e != api.OK || !slices.Equal(got, want) {
			t.Errorf("%s\n%v, error %d; want %v", text, got, e, want)
		}
		if got := model(treeOf(t, source)); !slices.Equal(got, want) {
			t.Errorf("%s\nthe model says %v; want %v", text, got, want)
		}
	}
}

// P5.1, E1: the examples of the chapter.
func TestExamples(t *testing.T) {
	for source, want := range map[string][]api.Diag{
		"parse { let a = in[0:u8]; emit x = (a + 1:u8); accept; }": nil,
		"parse { let a = (1:u8 + 1:u9); emit x = a; }":             {{Err: api.ErrWidth, At: 16}},
		"parse { if len { let a = 1:u1; } a = 0:u1; }":             {{Err: api.ErrWidth, At: 8}, {Err: api.ErrName, At: 33}},
		"func f(a:u8) u8 { } parse { let b = f(); }":               {{Err: api.ErrEnd, At: 16}, {Err: api.ErrCount, At: 36}},
	} {
		expectDiags(t, treeOf(t, source), want)
	}
	expectMarked(t, full, "parse { }")
}

// P5.1, E1: what is no valid tree, and valid trees that are those of no short source.
func TestArguments(t *testing.T) {
	wrong := []api.Node{{}, {Kind: api.NodeBlock}, {Kind: api.NodeProgram}, {Kind: -1}, {Kind: 99}}
	n := treeOf(t, full)
	for i := range nodesOf(&n) {
		m := clone(n)
		node := nodesOf(&m)[i]
		node.Kind = 32
		wrong = append(wrong, m)
	}
	block := treeOf(t, "parse { a = 256:u8; reject 256; }")
	block.Kids[0].Kids = append(block.Kids[0].Kids, api.Node{Kind: api.NodeLen})
	for _, n := range append(wrong, block) {
		if diags, e := check.Check(n); e != api.ErrArg || len(diags) > 0 {
			t.Errorf("%v: %v, error %d", n, diags, e)
		}
	}
	// as deep as a program may be, and deeper
	deep := treeOf(t, "parse { emit x = "+strings.Repeat("~", 8)+"y; }")
	expectDiags(t, deep, []api.Diag{{Err: api.ErrName, At: 25}})
	value := &deep.Kids[0].Kids[0].Kids[0]
	*value = api.Node{Kind: api.NodeNot, Kids: []api.Node{clone(*value)}}
	if diags, e := check.Check(deep); e != api.ErrArg || len(diags) > 0 {
		t.Errorf("%v, error %d", diags, e)
	}
	// longer than a source
	long := treeOf(t, "parse { if 1:u1 { } reject 256; }")
	long.Kids[0].Kids = append(slices.Repeat(long.Kids[0].Kids[:1], 1000), long.Kids[0].Kids[1])
	expectDiags(t, long, []api.Diag{{Err: api.ErrRange, At: 20}})
	// offsets of all sorts
	for _, at := range []int{math.MinInt, -1, 0, 7, math.MaxInt} {
		n := treeOf(t, "func f() u8 { } parse { }")
		n.Kids[0].Kids[0].At = at
		expectDiags(t, n, []api.Diag{{Err: api.ErrEnd, At: at}})
	}
}

// P1: nodes that contain themselves.
func TestEndlessNodes(t *testing.T) {
	for kind := range 33 {
		kids := slices.Repeat([]api.Node{{Kind: kind, Name: "a", W: 8}}, 3)
		for i := range kids {
			kids[i].Kids = kids
		}
		n := api.Node{Kind: api.NodeProgram, Kids: []api.Node{{Kind: api.NodeBlock, Kids: kids}}}
		for _, n := range []api.Node{n, kids[0]} {
			if diags, e := check.Check(n); e != api.ErrArg || len(diags) > 0 {
				t.Errorf("%d: %v, error %d", kind, diags, e)
			}
		}
	}
}

// P1: programs with much more of everything than a source can have.
func TestWidePrograms(t *testing.T) {
	const many = 20000
	n := treeOf(t, "struct s { a: u8 } func f(a: u8) u8 { let b = a; return b; } parse { if (f(1:u8) == len) { } }")
	wide := func(widen func(n *api.Node)) api.Node {
		m := clone(n)
		widen(&m)
		return m
	}
	for _, x := range []struct {
		n    api.Node
		want int
	}{
		{n, 0},
		{wide(func(n *api.Node) { n.Kids[0].Kids = slices.Repeat(n.Kids[0].Kids, many) }), 20},
		{wide(func(n *api.Node) { n.Kids[1].Kids = append(slices.Repeat(n.Kids[1].Kids[:1], many), n.Kids[1].Kids...) }), 20},
		{wide(func(n *api.Node) { n.Kids = append(slices.Repeat(n.Kids[:2], many), n.Kids...) }), 20},
		{wide(func(n *api.Node) { n.Kids[2].Kids = slices.Repeat(n.Kids[2].Kids, many) }), 0},
		{wide(func(n *api.Node) {
			call := &n.Kids[2].Kids[0].Kids[0].Kids[0]
			call.Kids = slices.Repeat(call.Kids, many)
		}), 1},
		{wide(func(n *api.Node) {
			var l []api.Node
			for i := range many {
				let := n.Kids[1].Kids[1].Kids[0]
				let.Name = fmt.Sprint("b", i)
				l = append(l, let, n.Kids[2].Kids[0])
			}
			n.Kids[1].Kids[1].Kids = l
		}), 20},
	} {
		if got := diagsOf(t, x.n); len(got) != x.want {
			t.Errorf("%v; want %d", got, x.want)
		}
	}
}

// P5.1, E1: rows NodeStruct and NodeFunc.
func TestItems(t *testing.T) {
	expectMarked(t,
		"struct s { a: u8 } Tstruct s { a: u8 } parse { }",
		"struct s { a: u8 } Tfunc s() u8 { return 1:u8; } Tstruct s { b: u8 } parse { }",
		"func s() u8 { return 1:u8; } Tfunc s() u8 { return 1:u8; } Tstruct s { b: u8 } parse { }",
		"struct s { s: u8 } func f(f: u8, s: u8) u8 { return f; } parse { let f = f(1:u8, len); let parse1 = f; new s: u8[len]; make q: s; q.s = s[f]; emit s = f; }",
	)
	structs, funcs := "", ""
	for i := range 8 {
		structs += fmt.Sprintf("struct s%d { a: u8 } ", i)
	}
	for i := range 12 {
		funcs += fmt.Sprintf("func f%d() u8 { return 1:u8; } ", i)
	}
	more := "struct t { a: u8 } Lfunc g() u8 { return 1:u8; } Tstruct s0 { a: u8 } Tfunc f0() u8 { return 1:u8; } Tstruct f0 { a: u8 } Tfunc s0() u8 { return 1:u8; } "
	expectMarked(t,
		structs+funcs+"parse { }", funcs+structs+"parse { }",
		structs+funcs+"L"+more+"parse { }", funcs+structs+"L"+more+"parse { }",
		structs+"Lstruct t { a: u8 } Lstruct u { a: u8 } func g() u8 { return 1:u8; } parse { make p: u; p.a = g(); make q: t; q.a = len; }",
		funcs+"Lfunc g() u8 { return 1:u8; } Lfunc h() u9 { return 1:u9; } struct t { a: u8 } parse { make p: t; Wp.a = h(); }",
		// those that are there twice are there, too
		strings.Replace(structs, "struct s1", "Tstruct s0", 1)+"Lstruct t { a: u8 } func g() u8 { return 1:u8; } parse { }",
		strings.Replace(funcs, "func f1", "Tfunc f0", 1)+"Lfunc g() u8 { return 1:u8; } struct t { a: u8 } parse { }",
	)
	expectMarked(t, strings.Replace(strings.Replace(structs+funcs, "u8 }", "u9, Ta: u8 }", 1), "f0()", "f0(a: u8, Ta: u8)", 1)+"parse { make p: s0; p.a = 1:u9; let b = f0(1:u8, 2:u8); }")
}

// P5.1, E1: rows NodeField and NodeParam.
func TestFieldsAndParameters(t *testing.T) {
	expectMarked(t,
		"struct s { a: u8, Ta: u8 } struct t { a: u9 } parse { }",
		"struct s { a: u8, b: u9, Ta: u10, Tb: u11, c: u12, Ta: u13 } parse { make p: s; p.a = 1:u8; p.b = 1:u9; p.c = 1:u12; Wp.a = 1:u10; Wp.b = 1:u11; }",
		"struct s { a: u1, b: u1, c: u1, d: u1, e: u1, f: u1, g: u1, h: u1 } parse { make p: s; p.h = 1:u1; }",
		"struct s { a: u1, b: u1, c: u1, d: u1, e: u1, f: u1, g: u1, h: u1, Li: u2, Lj: u3, Ta: u1, Ti: u1, Lk: u1 } parse { make p: s; p.h = 1:u1; Wp.i = 1:u1; p.j = 1:u3; Np.l = 1:u1; }",
		"struct s { a: u1, Ta: u1, b: u1, c: u1, d: u1, e: u1, f: u1, g: u1, Lh: u1 } parse { }",
		"func f(a: u8, Ta: u9) u8 { return a; } func g(a: u8) u8 { return a; } parse { let b = f(1:u8, 1:u9); let c = Wf(1:u8, 1:u8); let d = Cf(1:u8); }",
		"func f(a: u8, b: u8, c: u8, d: u8) u8 { return d; } parse { let b = f(len, len, len, len); }",
		"func f(a: u8, b: u8, c: u8, d: u8, Le: u9, Lf: u10, Ta: u11) u9 { Wa = f; return e; } parse { let b = f(len, len, len, len, 1:u9, 1:u10, 1:u11); let c = Cf(len, len, len, len); }",
		"func f(a: u8, Ta: u8, b: u8, c: u8, Ld: u8) u8 { return d; } parse { }",
	)
}

// P5.1, E1: rows NodeBlock and NodeReturn.
func TestReturns(t *testing.T) {
	expectMarked(t,
		"func f() u8 E{ } parse { }", "func f() u8 E{ accept; } parse { }", "func f() u8 { return 1:u8; } parse { }", "func f() u8 { Wreturn 1:u9; } parse { }",
		"func f() u8 E{ Ereturn 1:u8; accept; } parse { }", "func f() u8 { Ereturn 1:u9; return 1:u8; } parse { }", "func f() u8 E{ if 1:u1 { Ereturn 1:u8; } } parse { }", "func f() u8 E{ if 1:u1 { } else { Ereturn 1:u8; } } parse { }",
		"func f() u8 E{ while 1:u1 { Ereturn 1:u8; } } parse { }", "func f() u8 { if 1:u1 { if 1:u1 { Ereturn 1:u9; } Ereturn 1:u8; } return 2:u8; } parse { }", "func f() u8 { if 1:u1 { accept; } else { Ereturn 1:u8; } Wreturn 1:u7; } parse { }",
		"parse { Ereturn 1:u8; }", "parse { Ereturn 1:u8; accept; }", "parse { if 1:u1 { Ereturn 1:u8; } }", "parse { Ereturn Na; }", "func f() u8 { return 1:u8; } parse { Ereturn 1:u8; }",
		"func f(a: u9) u8 { Wreturn a; } func g() u9 { return W(1:u9 + 1:u8); } parse { }",
		"func f() u8 { return Na; } func g() u8 { let p = Na; return p; } parse { }", "func f() u8 { let a = 1:u8; return a; } func g() u1 { return (1:u8 < 2:u8); } parse { }",
		"func f() u8 { accept; reject 1; return 1:u8; } func g() u8 E{ Rreject 256; } parse { }",
		// blocks of other nodes have no errors
		"parse { if 1:u1 { } else { } while 1:u1 { } }",
	)
}

// P5.1, E1: rows NodeLet, NodeNew and NodeMake.
func TestDeclarations(t *testing.T) {
	const s = "struct s { a: u8 } struct t { a: u8 } "
	expectMarked(t,
		"parse { let a = 1:u8; Tlet a = 1:u8; Tnew a: u8[1:u8]; Tmake a: s; }",
		s+"parse { new a: u8[len]; Tmake a: s; Tlet a = len; a[len] = len; }", s+"parse { make a: s; Tnew a: u8[len]; Tmake a: t; Tlet a = len; a.a = len; }",
		"func f(a: u8) u8 { Tlet a = 1:u9; Tnew a: u8[len]; Tmake a: s; Wa = 1:u9; return a; } parse { let a = 1:u9; }",
		"parse { Nmake p: s; Nmake q: p; Tmake p: s; }",
		"func s() u8 { return 1:u8; } parse { Nmake p: s; }", "func f() u8 { Nmake p: s; return 1:u8; } struct s { a: u8 } func g() u8 { make p: s; return p.a; } parse { make p: s; }",
		"struct s { a: u8 } Tstruct s { b: u8 } func s1() u8 { make p: s; return Np.b; } parse { make p: s; p.a = 1:u8; Np.b = 1:u8; }",
		"func s() u8 { return 1:u8; } Tstruct s { b: u9 } parse { make p: s; p.b = 1:u9; Wp.b = s(); }",
		// what is in the declaration itself, and what is behind one that is there twice
		"parse { let a = Na; let b = (1:u8 + Nb); new p: u8[Np[len]]; new q: u8[Nq.a]; }", "parse { let a = 1:u8; Tlet a = (a + 1:u8); Tlet a = 1:u16; a = 2:u8; Wa = 2:u16; }", "parse { let a = Nb; Tlet a = Nb; Tnew a: u8[Nb]; }",
		"parse { if 1:u1 { let a = 1:u8; } else { Tlet a = 1:u9; Na = 1:u9; } Tlet a = 1:u9; Na = 1:u9; }",
		// the widths of what is declared
		"parse { let a = 1:u7; a = 1:u7; Wa = len; let b = u5(a); b = 1:u5; Wb = a; new p: u3[a]; p[a] = 1:u3; Wp[a] = a; }",
	)
}

// lets are declarations of new variables: from one number to another.
func lets(from, until int) string {
	text := ""
	for i := from; i < until; i++ {
		text += fmt.Sprintf("let v%d = 1:u8; ", i)
	}
	return text
}

// P5.1, E1: the limit of NodeLet, NodeNew and NodeMake.
func TestManyVariables(t *testing.T) {
	const s = "struct s { a: u8 } "
	expectMarked(t,
		"parse { "+lets(0, 40)+"}", "parse { "+lets(0, 40)+"Llet a = 1:u8; a = 2:u8; Wa = 2:u9; Tlet a = 1:u9; Tlet v0 = 1:u8; Llet b = a; }",
		s+"parse { "+lets(0, 40)+"Lmake p: s; Lmake q: t; p.a = 1:u8; q.b = 1:u8; Np.b = 1:u8; Tmake p: t; Lnew r: u8[len]; r[len] = len; Kfree v0; Tnew v1: u8[Nz]; }",
		s+"parse { "+lets(0, 39)+"make p: s; Lnew q: u9[len]; Lmake r: t; }",
		s+"parse { "+lets(0, 38)+"new q: u9[len]; Nmake p: t; Llet a = len; }",
		"func f(a: u8, b: u8) u8 { "+lets(0, 38)+"return a; } parse { "+lets(0, 40)+"}", "func f(a: u8, b: u8) u8 { "+lets(0, 38)+"Llet c = a; return c; } parse { "+lets(0, 40)+"}",
		"func f(a: u8, b: u8, c: u8, d: u8) u8 { "+lets(0, 36)+"Llet v = a; Tlet a = v; return v; } func g() u8 { "+lets(0, 40)+"return v39; } parse { "+lets(0, 40)+"Llet a = 1:u1; }",
		// those of inner blocks, and none of those that are there twice
		"parse { if 1:u1 { "+lets(0, 20)+"} else { "+lets(20, 39)+"} while 1:u1 { let a = 1:u1; } Llet b = 1:u1; }",
		"parse { "+lets(0, 39)+"Tlet v0 = 1:u8; Tlet v38 = 1:u1; let b = 1:u1; Llet c = 1:u1; }",
		"parse { "+lets(0, 39)+"let a = Nb; Llet b = a; b = 1:u1; }",
	)
}

// P5.1, E1: rows NodeSet and NodeVar.
func TestVariables(t *testing.T) {
	const s = "struct s { a: u8 } "
	expectMarked(t,
		"parse { Na = 1:u8; }", "parse { let a = 1:u8; a = 2:u8; Wa = 2:u9; a = a; }", "parse { new a: u8[len]; Ka = 1:u8; Ka = Ka; }", s+"parse { make a: s; Ka = 1:u8; Ka = a.a; }", "parse { Na = Nb; }",
		"parse { emit x = Na; let b = Nf; emit b = b; emit y = b; }", "parse { new a: u8[len]; emit x = Ka; let b = Ka; emit y = b; b = 1:u9; }", s+"parse { make a: s; emit x = Ka; let s = Ns; }",
		"func f(a: u8) u9 { Wa = 1:u9; a = 1:u8; Wreturn a; } parse { Na = f(Na); emit x = Nf; }",
		"parse { let a = 1:u8; a = W(a + 1:u9); Wa = (1:u9 + 1:u9); Wa = (a == a); a = (a + 1:u8); a = Nb; }",
	)
}

// P5.1, E1: rows NodePut and NodeCell.
func TestCells(t *testing.T) {
	const s = "struct s { a: u8 } "
	expectMarked(t,
		"parse { new p: u8[1:u64]; p[0:u1] = p[len]; Wp[len] = 1:u9; p[1:u9] = 1:u8; }", "parse { Np[len] = 1:u8; Np[Nq] = Nr; emit x = Np[len]; emit x = Np[Nq]; }",
		"parse { let p = 1:u8; Kp[len] = 1:u9; emit x = Kp[len]; emit x = Kp[Nq]; let a = Kp[len]; a = 1:u9; free a; }", s+"parse { make p: s; Kp[len] = 1:u9; emit x = Kp[Kp]; Kp[p.a] = p.a; }",
		"parse { new p: u16[len]; let a = p[len]; a = 1:u16; Wa = 1:u8; Wp[p[a]] = u8(a); p[p[p[Np1]]] = a; p[len] = Kp; }", "func f(p: u8) u8 { Kp[p] = p; return Kp[p]; } parse { }",
	)
}

// P5.1, E1: rows NodePutPart and NodePart.
func TestParts(t *testing.T) {
	const s = "struct s { a: u8, b: u9 } struct t { b: u8, c: u1 } "
	expectMarked(t,
		s+"parse { make p: s; p.a = 1:u8; Wp.a = 1:u9; p.b = 1:u9; Wp.b = p.a; Np.c = 1:u8; Np.c = Nx; p.a = Np.c; emit x = Np.p; }",
		s+"parse { make p: t; Wp.b = 1:u9; p.c = (p.b == len); Np.a = len; emit x = Np.a; }", "parse { Np.a = 1:u8; Np.a = Nq.b; emit x = Np.a; }",
		s+"parse { let p = 1:u8; Kp.a = 1:u9; emit x = Kp.a; new q: u8[len]; Kq.a = 1:u9; emit x = Kq.c; Kq.c = Kp.a; let a = Kp.a; a = 1:u9; free a; let b = Kq.a; b = 1:u9; free b; }", s+"func f(p: u8) u8 { return Kp.a; } parse { make p: s; let a = p.b; a = 1:u9; Wa = 1:u8; Wif p.a { } let b = Np.z; b = 1:u33; }",
		"struct s { a: u8 } parse { make p: s; p.a = 2:u8; Np.s = 2:u8; }",
	)
}

// P5.1, E1: rows NodeFree and NodeSame.
func TestPointers(t *testing.T) {
	const s = "struct s { a: u8 } struct t { a: u8 } "
	expectMarked(t,
		s+"parse { Nfree p; new p: u8[len]; free p; free p; make q: s; free q; let a = len; Kfree a; Nfree s; }", "func f(a: u8) u8 { Kfree a; return a; } parse { Nfree f; }",
		s+"parse { new p: u8[len]; new q: u8[3:u3]; new r: u9[len]; make v: s; make w: s; make x: t; let i = len; same p = q; same q = p; same p = p; Ksame p = r; Ksame r = p; same v = w; same w = v; Ksame v = x; Ksame x = w; Ksame p = v; Ksame v = p; Ksame p = i; Ksame i = p; Ksame v = i; Ksame i = v; Ksame i = i; }",
		s+"parse { new p: u8[len]; let i = len; let j = len; Nsame p = q; Nsame q = p; Nsame q = r; Nsame i = q; Nsame q = i; Ksame i = j; Nsame s = s; Nsame p = s; }",
		// pointers to structs are not like those to arrays whose cells are as wide as fields
		"struct s { a: u8 } parse { make p: s; new q: u8[len]; Ksame p = q; Ksame q = p; }",
	)
}

// P5.1, E1: rows NodeIf, NodeWhile and NodeReject.
func TestConditions(t *testing.T) {
	expectMarked(t,
		"parse { Wif len { } Wwhile len { } if (len < len) { } while ~1:u1 { } Wif 1:u2 { } else { } Wwhile ~len { } if 0:u1 { } else { Wif 0:u64 { } } }",
		"parse { if Na { } while Nb[len] { } if W(1:u1 + 1:u2) { } while Nf(len) { } new p: u1[len]; if Kp { } if p[len] { } }",
		"func f() u2 { return 1:u2; } parse { Wif f() { } Wwhile Cf(Na) { } }",
		"parse { reject 0; reject 255; Rreject 256; Rreject 18446744073709551615; if 1:u1 { Rreject 65536; } }", "func f() u8 { reject 255; Rreject 257; return 1:u8; } parse { }",
	)
}

// P5.1, E1: row NodeNumber.
func TestNumbers(t *testing.T) {
	for w := 1; w <= 64; w++ {
		most := ^uint64(0) >> (64 - w)
		expectMarked(t, fmt.Sprintf("parse { let a = %d:u%d; a = 0:u%d; a = 1:u%d; }", most, w, w, w))
		for bits := w; bits < 64; bits++ {
			expectMarked(t, fmt.Sprintf("parse { let a = R%d:u%d; emit x = ~R%d:u%d; Wif sext u64(R18446744073709551615:u%d) { } }", uint64(1)<<bits, w, most+uint64(1)<<(bits-w), w, w))
		}
	}
	// the width of a number does not depend on it
	expectMarked(t, "parse { let a = R256:u8; a = 1:u8; Wa = 1:u9; if R2:u1 { } Wif R4:u2 { } }")
}

// P5.1, E1: rows NodeBin, NodeSext and NodeCall, and expressions without errors.
func TestExpressions(t *testing.T) {
	for i, sign := range signs {
		// The widths of a and b: if one of both sides has none, or they differ, only signs for conditions have one.
		text := "parse { let a = (1:u8 S len); Aa = 1:u8; Ba = 1:u1; let b = W(1:u8 S 1:u9); Bb = 1:u8; b = 1:u1; let c = (Nx S len); Bc = 1:u8; c = 1:u1; let d = (len S Nx); Bd = 1:u8; d = 1:u1; }"
		sides, conditions := []string{"S", sign, "A", "", "Ba = 1:u1", "Wa = 1:u1", "B", ""}, []string{"S", sign, "A", "W", "Ba = 1:u1", "a = 1:u1", "B", "W"}
		if i < 10 {
			expectMarked(t, strings.NewReplacer(sides...).Replace(text))
		} else {
			expectMarked(t, strings.NewReplacer(conditions...).Replace(text))
		}
	}
	const f = "func f(a: u8, b: u9) u7 { return 1:u7; } func g() u8 { return 1:u8; } "
	expectMarked(t,
		"parse { let a = sext u8(len); let b = Wsext u7(a); b = 1:u7; Wb = a; let c = sext u64(b); Wc = sext u63(b); let d = Wsext u1(c); let e = sext u1(d); let g = sext u3(Nx); let h = Wsext u7(sext u9(a)); }",
		"parse { let a = u8(len); let b = u7(a); b = 1:u7; Wb = a; let c = u64(Nx); c = 1:u64; Wc = u1(c); }",
		"parse { let a = in[1:u8]; a = len; Wa = 1:u9; a = in[in[1:u64]]; a = in[Nx]; a = ~a; Wa = ~1:u7; a = ~Nx; a = ~~len; let b = ~Nx; b = a; b = 1:u9; }",
		f+"parse { let a = f(1:u8, 1:u9); a = 1:u7; Wa = 1:u8; Wa = g(); let b = Cf(); b = a; Wb = len; a = Cf(len); a = Cf(len, len, len); a = Wf(1:u9, 1:u9); a = Wf(len, len); a = Wf(1:u9, len); let c = Wf(len, len); c = a; Wc = len; a = f(Nx, 1:u9); a = Wf(Nx, 1:u8); a = f(Nx, Ny); a = Cf(Nx); let d = Cg(Nx); d = len; }",
		f+"parse { let a = Nh(); a = 1:u8; a = 1:u1; a = Nh(Nx, len); let b = Na(); let f1 = Ns(g()); let h = Ng1(); emit x = (Nh() + Nh()); }",
		// the functions before the place alone
		"func f() u8 { return Nf(); } func g() u8 { let a = Nh(); a = 1:u1; return f(); } func h() u8 { return (f() + g()); } parse { let a = (f() + (g() + h())); }",
		"func f() u8 { return 1:u8; } Tfunc f() u9 { Wreturn f(); } Tfunc f(a: u8) u8 { return f(); } parse { let a = f(); Wa = 1:u9; a = Cf(a); }",
		"struct f { a: u8 } Tfunc f() u8 { return 1:u8; } parse { let a = f(); make p: f; p.a = a; }", "struct f { a: u8 } parse { let a = Nf(); }",
		// one error for each node, and one after the other
		"parse { emit x = (W(1:u8 + 1:u9) + W(1:u8 + 1:u7)); emit y = W((1:u8 + 1:u8) + (1:u9 + 1:u9)); emit z = (W(1:u8 + 1:u9) + len); emit z = W((1:u8 == 1:u8) + len); }",
		"parse { emit x = W(R256:u8 + Wsext u7(R512:u9)); Nx = W(R2:u1 < 3:u2); }",
	)
}

// P5.1, E1: nothing is reported about the kind and the width of a variable of no kind.
func TestVariablesOfNoKind(t *testing.T) {
	for _, declaration := range []string{"let a = Nx;", "let a = W(1:u8 + 1:u9);", "Nmake a: x;", "let a = Nf();", "new p1: u8[len]; let a = Kp1;", "let b = Nx; let a = b;", "let b = Nx; let a = b[len];", "Nmake b: x; let a = b.c;", "make b: s; let a = Nb.c;", "let b = Nx; let a = ~(b + 1:u8);"} {
		expectMarked(t, "struct s { a: u8 } parse { "+declaration+` let i = 1:u8; new p: u8[len]; make q: s;
			a = 1:u8; a = 1:u64; a = Kp; a[len] = 1:u8; a[a] = i; a.b = 1:u8; a.c = a.d; free a; same a = p; same p = a; same a = q; same q = a; same a = i; same i = a; same a = a; Nsame a = y; Nsame y = a;
			i = a; Wi = (a == i); i = (a + i); i = (i + a); p[a] = a; q.a = a; if a { } while a[len] { } if a.b { } emit x = (a + a.b); i = in[a]; i = ~a; Wi = sext u1(a); i = u8(a.b); let c = a; free c; let d = a[Nz]; same c = d;
			Tlet a = 1:u8; Kfree i; }`)
	}
	expectMarked(t, "func f(a: u8) u8 { let b = Nx; return b; } func g() u8 { let b = Nx; return f(b); } parse { }")
}

// P5.1, E1: a declaration counts from the statement after it to the end of its block.
func TestPlaces(t *testing.T) {
	expectMarked(t,
		"parse { Na = 1:u8; let a = Na; a = 1:u8; if 1:u1 { a = 2:u9; } }",
		"parse { if 1:u1 { Na = 1:u8; let a = 1:u8; a = 2:u8; while (a < len) { a = 3:u8; } } Na = 4:u8; if 1:u1 { Na = 1:u8; } }",
		"parse { while (Na == 1:u8) { let a = 1:u8; } if (Na == 1:u8) { } else { } }", "parse { if 1:u1 { let a = 1:u8; if (a == len) { } else { a = len; } } else { Na = 1:u8; } }",
		"parse { if 1:u1 { } else { let a = 1:u8; Wa = 1:u9; } emit x = Na; }", "parse { let a = len; if 1:u1 { let b = a; } else { let c = a; emit x = Nb; } while 1:u1 { emit y = (Nb + Nc); } }",
		"func f(a: u8) u8 { let b = a; return b; } func g(b: u8) u8 { return (Na + b); } parse { emit x = (Na + Nb); }", "func f() u8 { if 1:u1 { let a = len; } return Na; } parse { }",
		"parse { while 1:u1 { new p: u8[len]; } Nfree p; Nsame p = p; Np[len] = len; Np.a = len; emit x = Np[len]; emit x = Np.a; }",
		"parse { accept; let a = 1:u8; reject 1; a = 2:u8; if 1:u1 { accept; Wa = 1:u9; } }",
	)
}

// P5.1, E1: at most 20 diagnostics.
func TestTwentyDiagnostics(t *testing.T) {
	for many := range 30 {
		text := strings.Repeat("Rreject 256; ", many)
		source, want := marked("func f() u8 { " + text + "Wreturn 1:u9; } parse { Rreject 256; if Na { Nb = R2:u1; } }")
		if len(want) > 20 {
			want = want[:20]
		}
		expectDiags(t, treeOf(t, source), want)
	}
	expectMarked(t, "parse { "+strings.Repeat("Nx = Ny; ", 10)+"x = y; let a = 256:u8; if len { x = y; } }", "parse { if 1:u1 { "+strings.Repeat("Nx = Ny[Nz]; ", 6)+"Wif len { } Nx = y; x = y; } x = y; }",
		strings.Repeat("func f() u8 E{ Nx = Ny; Rreject 256; } ", 1)+strings.Repeat("Tfunc f() u8 E{ Nx = Ny; Rreject 256; } ", 3)+"Tstruct f { a: u8, a: u8 } func f() u8 { } parse { x = y; }")
}

// P5.1, E1: random programs, in which little, much or nothing is wrong.
func TestRandomPrograms(t *testing.T) {
	for _, source := range sources(1, 1500, 0) {
		expectDiags(t, treeOf(t, source), nil)
	}
	seen := map[found]int{}
	truncated := 0
	for _, source := range sources(2, 4000, 0.003, 0.01, 0.03, 0.1, 0.3) {
		n := treeOf(t, source)
		expectDiags(t, n, model(n))
		all := findings(n)
		if len(all) > 20 {
			truncated++
		}
		for _, f := range all[:min(len(all), 20)] {
			f.At = 0
			seen[f]++
		}
	}
	for kind, errors := range table {
		for _, e := range errors {
			if many := seen[found{kind, api.Diag{Err: e}}]; many < 10 {
				t.Errorf("kind %d, error %d: %d times", kind, e, many)
			}
		}
	}
	if truncated < 100 {
		t.Error("few programs with many errors:", truncated)
	}
}

// table has the errors of the chapter's table.
var table = map[int][]api.Errno{
	api.NodeStruct: {api.ErrTwice, api.ErrLimit}, api.NodeFunc: {api.ErrTwice, api.ErrLimit}, api.NodeField: {api.ErrTwice, api.ErrLimit}, api.NodeParam: {api.ErrTwice, api.ErrLimit},
	api.NodeBlock: {api.ErrEnd}, api.NodeLet: {api.ErrTwice, api.ErrLimit}, api.NodeNew: {api.ErrTwice, api.ErrLimit}, api.NodeMake: {api.ErrTwice, api.ErrLimit, api.ErrName},
	api.NodeSet: {api.ErrName, api.ErrKind, api.ErrWidth}, api.NodePut: {api.ErrName, api.ErrKind, api.ErrWidth}, api.NodeCell: {api.ErrName, api.ErrKind},
	api.NodePutPart: {api.ErrName, api.ErrKind, api.ErrWidth}, api.NodePart: {api.ErrName, api.ErrKind}, api.NodeFree: {api.ErrName, api.ErrKind}, api.NodeSame: {api.ErrName, api.ErrKind},
	api.NodeIf: {api.ErrWidth}, api.NodeWhile: {api.ErrWidth}, api.NodeReject: {api.ErrRange}, api.NodeReturn: {api.ErrEnd, api.ErrWidth}, api.NodeNumber: {api.ErrRange},
	api.NodeVar: {api.ErrName, api.ErrKind}, api.NodeBin: {api.ErrWidth}, api.NodeSext: {api.ErrWidth}, api.NodeCall: {api.ErrName, api.ErrCount, api.ErrWidth},
}

// others are nodes with one change.
func others(n api.Node) []api.Node {
	var l []api.Node
	change := func(change func(m *api.Node)) {
		m := n
		m.Kids = slices.Clone(n.Kids)
		change(&m)
		l = append(l, m)
	}
	for _, name := range []string{"a", "b", "c", "f", "g", "p", "q", "s", "t", "x", "y", "z"} {
		change(func(m *api.Node) { m.Name = name })
		change(func(m *api.Node) { m.Part = name })
	}
	for _, w := range []int{1, 7, 8, 9, 16, 64} {
		change(func(m *api.Node) { m.W = w })
	}
	for _, k := range []uint64{1, 4, 10, 11, 17, 255, 256, 1 << 63} {
		change(func(m *api.Node) { m.N = k })
	}
	for kind := api.NodeStruct; kind <= api.NodeCall; kind++ {
		change(func(m *api.Node) { m.Kind = kind })
	}
	for i := range n.Kids {
		change(func(m *api.Node) { m.Kids = slices.Delete(m.Kids, i, i+1) })
		for j := range n.Kids {
			change(func(m *api.Node) { m.Kids[i], m.Kids[j] = m.Kids[j], m.Kids[i] })
			change(func(m *api.Node) { m.Kids = slices.Insert(m.Kids, i, m.Kids[j]) })
		}
	}
	return l
}

// P5.1, E1: all changes of one node of a program.
func TestChangedPrograms(t *testing.T) {
	n := numbered(treeOf(t, full))
	count := map[bool]int{}
	for i, node := range nodesOf(&n) {
		for _, other := range others(*node) {
			m := clone(n)
			*nodesOf(&m)[i] = clone(other)
			valid := parser.Valid(m)
			count[valid]++
			if valid {
				expectDiags(t, m, model(m))
			} else if diags, e := check.Check(m); e != api.ErrArg || len(diags) > 0 {
				t.Fatalf("%v: %v, error %d", m, diags, e)
			}
		}
	}
	if count[true] < 1000 || count[false] < 1000 {
		t.Error("few programs of a sort:", count)
	}
}

// P5.1: the argument is not changed, and two calls have results of their own.
func TestResults(t *testing.T) {
	n := treeOf(t, "struct s { a: u8, a: u8 } func f(a: u8) u8 { } parse { x = y; let a = 1:u8; let a = f(); }")
	before := fmt.Sprint(n)
	first := diagsOf(t, n)
	want := slices.Clone(first)
	for i := range first {
		first[i] = api.Diag{}
	}
	if second := diagsOf(t, n); !slices.Equal(second, want) || len(want) != 6 {
		t.Errorf("%v; want %v", second, want)
	}
	if fmt.Sprint(n) != before {
		t.Error("the argument was changed")
	}
}
