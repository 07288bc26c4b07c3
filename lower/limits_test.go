package lower_test

import (
	"fmt"
	"math"
	"slices"
	"strings"
	"testing"

	"formfinder/api"
	"formfinder/lower"
	"formfinder/parser"
	"formfinder/ssa"
)

// expectError fails the test unless a tree has this error, and no code.
func expectError(t *testing.T, n api.Node, want api.Errno) {
	t.Helper()
	c, e := lower.Lower(n)
	if e != want || !equalCode(c, api.Code{}) {
		t.Errorf("%.300v: error %d, %d instructions; want error %d", n, e, len(c.Insts), want)
	}
}

// P7.1, G1: what is no valid tree.
func TestInvalidTrees(t *testing.T) {
	wrong := []api.Node{{}, {Kind: api.NodeBlock}, {Kind: api.NodeProgram}, {Kind: -1}, {Kind: 99}, treeOf(t, "parse { accept; }").Kids[0]}
	n := treeOf(t, full)
	for i := range nodesOf(&n) {
		m := clone(n)
		nodesOf(&m)[i].Kind = 32
		wrong = append(wrong, m)
		m = clone(n)
		nodesOf(&m)[i].W = -1
		wrong = append(wrong, m)
	}
	// deeper than a program may be
	deep := treeOf(t, "parse { emit x = "+strings.Repeat("~", 8)+"len; }")
	if c := codeOf(t, deep); len(c.Insts) != 10 {
		t.Error(len(c.Insts))
	}
	value := &deep.Kids[0].Kids[0].Kids[0]
	*value = api.Node{Kind: api.NodeNot, Kids: []api.Node{clone(*value)}}
	for _, n := range append(wrong, deep) {
		expectError(t, n, api.ErrArg)
	}
}

// P7.1, G1: programs with which something is wrong.
func TestWrongPrograms(t *testing.T) {
	const s = "struct s { a: u8 } func f(a: u8) u8 { return a; } "
	for _, source := range []string{
		"parse { a = 1:u8; }", "parse { emit x = a; }", "parse { let a = len; let a = len; }", "parse { let a = 256:u8; }", "parse { reject 256; }", "parse { if len { } }", "parse { while len { } }", "parse { return len; }", "parse { let a = (len + 1:u9); }", "parse { let a = sext u7(len); }",
		"parse { free a; }", "parse { let a = len; free a; }", "parse { new p: u8[len]; emit x = p; }", "parse { new p: u8[len]; p = len; }", "parse { new p: u8[len]; p.a = len; }", "parse { let a = len; a[len] = len; }", "parse { new p: u8[len]; new q: u9[len]; same p = q; }", "parse { make p: s; }", "parse { emit x = f(); }",
		s + "parse { emit x = f(); }", s + "parse { emit x = f(1:u9); }", s + "parse { make p: s; p.b = len; }", s + "parse { make p: s; p.a = 1:u9; }", s + "func f() u8 { return len; } parse { }", "struct s { a: u8, a: u8 } parse { }", "func f() u8 { } parse { }", "func f() u8 { return f(); } parse { }", "func f() u8 { return 1:u9; } parse { }", "func f(a: u8, a: u8) u8 { return a; } parse { }",
		// in what is not written, too
		"parse { accept; a = 1:u8; }", "func f() u8 { accept; return b; } parse { }", "parse { reject 1; reject 256; }",
	} {
		expectError(t, treeOf(t, source), api.ErrArg)
	}
	// ErrArg comes before ErrLimit
	large := treeOf(t, "parse { if 1:u1 { } reject 256; }")
	large.Kids[0].Kids = append(slices.Repeat(large.Kids[0].Kids[:1], 1000), large.Kids[0].Kids[1])
	expectError(t, large, api.ErrArg)
	large.Kids[0].Kids[1000].N = 255
	expectError(t, large, api.ErrLimit)
}

// P1: nodes that contain themselves.
func TestEndlessNodes(t *testing.T) {
	for kind := range 33 {
		kids := slices.Repeat([]api.Node{{Kind: kind, Name: "a", W: 8}}, 3)
		for i := range kids {
			kids[i].Kids = kids
		}
		expectError(t, api.Node{Kind: api.NodeProgram, Kids: []api.Node{{Kind: api.NodeBlock, Kids: kids}}}, api.ErrArg)
		expectError(t, kids[0], api.ErrArg)
	}
}

// changes are nodes with one change.
func changes(n api.Node) []api.Node {
	var l []api.Node
	change := func(change func(m *api.Node)) {
		m := n
		m.Kids = slices.Clone(n.Kids)
		change(&m)
		l = append(l, m)
	}
	for _, name := range []string{"a", "b", "c", "f", "g", "p", "q", "s", "t", "x"} {
		change(func(m *api.Node) { m.Name = name })
		change(func(m *api.Node) { m.Part = name })
	}
	for _, w := range []int{0, 1, 7, 8, 9, 16, 64, 65, -1} {
		change(func(m *api.Node) { m.W = w })
	}
	for _, k := range []uint64{0, 1, 4, 10, 11, 17, 18, 255, 256, 1 << 63} {
		change(func(m *api.Node) { m.N = k })
	}
	for _, at := range []int{math.MinInt, -1, 4001, math.MaxInt} {
		change(func(m *api.Node) { m.At = at })
	}
	for kind := api.NodeProgram; kind <= api.NodeCall+1; kind++ {
		change(func(m *api.Node) { m.Kind = kind })
	}
	for i := range n.Kids {
		change(func(m *api.Node) { m.Kids = slices.Delete(m.Kids, i, i+1) })
		for j := range n.Kids {
			change(func(m *api.Node) { m.Kids[i], m.Kids[j] = m.Kids[j], m.Kids[i] })
			change(func(m *api.Node) { m.Kids = slices.Insert(m.Kids, i, m.Kids[j]) })
		}
	}
	return l
}

// P7.1, P1: all changes of one node of a program.
func TestChangedPrograms(t *testing.T) {
	n := treeOf(t, full)
	count := map[api.Errno]int{}
	for i, node := range nodesOf(&n) {
		for _, other := range changes(*node) {
			m := clone(n)
			*nodesOf(&m)[i] = clone(other)
			e := expectModel(t, m)
			count[e]++
			if e == api.OK && slices.Max(placesOf(codeOf(t, m))) <= 4000 && slices.Min(placesOf(codeOf(t, m))) >= 0 && !ssa.Valid(codeOf(t, m)) {
				t.Fatalf("%v", m)
			}
		}
	}
	if count[api.OK] < 1000 || count[api.ErrArg] < 1000 {
		t.Error("few programs of a sort:", count)
	}
}

// times is statements, so many times as is said.
type times struct {
	text string
	many int
}

// program is one with items, and statements in parse, of which there may be more than a source can have.
func program(t *testing.T, items string, statements ...times) api.Node {
	t.Helper()
	// Only the first ones declare something.
	text := items + "parse { "
	for _, s := range statements {
		text += s.text + " "
	}
	n := treeOf(t, text+"}")
	parse := &n.Kids[len(n.Kids)-1]
	kids := parse.Kids
	parse.Kids = nil
	for _, s := range statements {
		many := len(treeOf(t, "parse { "+s.text+" }").Kids[0].Kids)
		parse.Kids = append(parse.Kids, slices.Repeat(kids[:many], s.many)...)
		kids = kids[many:]
	}
	return n
}

// P7.1, G1: up to 400 blocks.
func TestManyBlocks(t *testing.T) {
	const f = "func f(a: u1) u1 { if a { a = 0:u1; } while a { a = 0:u1; } return a; } "
	for last, many := range map[string]int{
		"if 1:u1 { }":                                   2,
		"if 1:u1 { accept; }":                           2,
		"if 1:u1 { } else { }":                          3,
		"if 1:u1 { accept; } else { }":                  3,
		"if 1:u1 { accept; } else { accept; }":          2,
		"while 1:u1 { }":                                3,
		"while 1:u1 { reject 1; }":                      3,
		"while 1:u1 { if 1:u1 { } }":                    5,
		"if 1:u1 { while 1:u1 { } } else { accept; }":   6,
		"emit x = f(1:u1);":                             5,
		"emit x = f(f(1:u1));":                          10,
		"accept; while 1:u1 { if 1:u1 { } }":            0,
		"accept;":                                       0,
		"if f(1:u1) { accept; } else { emit x = len; }": 8,
	} {
		rest := 399 - many
		// ifs begin two blocks each, and whiles three
		for whiles := rest % 2; whiles < 7; whiles += 2 {
			ifs := (rest - 3*whiles) / 2
			fits := program(t, f, times{"if 1:u1 { }", ifs}, times{"while 1:u1 { }", whiles}, times{last, 1})
			if c := codeOf(t, fits); len(c.Blocks) != 400 || !ssa.Valid(c) {
				t.Error(last, len(c.Blocks))
			}
			expectModel(t, fits)
			if whiles < 1 || ifs < 1 {
				continue
			}
			// one block more, or two
			for _, n := range []api.Node{
				program(t, f, times{"while 1:u1 { }", whiles + 1}, times{"if 1:u1 { }", ifs - 1}, times{last, 1}),
				program(t, f, times{"while 1:u1 { }", whiles}, times{"if 1:u1 { }", ifs + 1}, times{last, 1}),
				program(t, f, times{"if 1:u1 { }", ifs + 2}, times{"while 1:u1 { }", whiles - 1}, times{last, 1}),
			} {
				expectError(t, n, api.ErrLimit)
				expectModel(t, n)
			}
		}
	}
	expectError(t, program(t, "", times{"if 1:u1 { }", 200}), api.ErrLimit)
	expectError(t, program(t, "", times{"while 1:u1 { }", 1000000}), api.ErrLimit)
}

// P7.1, G1: up to 3000 instructions.
func TestManyInstructions(t *testing.T) {
	const items = "struct s { a: u8, b: u8 } func f(a: u8) u8 { return ~a; } func g() u8 { return 1:u8; } "
	const filler = "x = len;"
	for last, many := range map[string]int{
		"emit y = x;": 1, "x = 1:u8;": 1, "x = len;": 1, "x = in[x];": 1, "x = ~x;": 1, "x = (x + x);": 1, "x = u8((x == x));": 2, "x = u8((x != x));": 3, "x = u8((x < x));": 2, "x = u8((x <= x));": 3, "x = u8((x >= x));": 3, "x = u8((x > x));": 2, "x = sext u8(u7(x));": 2, "x = u8(x);": 0,
		"free p;": 1, "p[x] = x;": 1, "x = p[x];": 1, "q.a = x;": 2, "x = q.b;": 2, "same p = p;": 0, "new r: u8[x];": 1, "make r: s;": 1, "x = f(x);": 1, "x = f(f(x));": 2, "x = g();": 1, "x = f(g());": 2, "accept; x = 1:u8;": 0, "if (x == x) { accept; x = len; }": 1,
		// parameters
		"if (x == x) { x = y; }": 2, "if (x == x) { x = y; } else { y = x; }": 3, "while (x == x) { x = y; }": 2, "while (x == x) { x = x; y = y; }": 3, "while (x == x) { same p = p; accept; }": 2,
	} {
		// behind four instructions
		before := times{"let x = len; let y = 1:u8; new p: u8[x]; make q: s;", 1}
		fits := program(t, items, before, times{filler, 2996 - many}, times{last, 1})
		if c := codeOf(t, fits); len(c.Insts) != 3000 || !ssa.Valid(c) {
			t.Error(last, len(c.Insts))
		}
		expectError(t, program(t, items, before, times{filler, 2997 - many}, times{last, 1}), api.ErrLimit)
	}
	expectError(t, program(t, items, times{"let x = len;", 1}, times{"x = ~x;", 1000000}), api.ErrLimit)
}

// emits are emits of different names.
func emits(from, until int) string {
	text := ""
	for i := from; i < until; i++ {
		text += fmt.Sprintf("emit n%d = len; ", i)
	}
	return text
}

// P7.1, G1: up to 32 names.
func TestManyNames(t *testing.T) {
	const f = "func f() u8 { emit in1 = len; return len; } func g() u8 { emit in2 = len; accept; return len; } "
	for source, fits := range map[string]bool{
		"parse { " + emits(0, 32) + "}": true, "parse { " + emits(0, 33) + "}": false, "parse { " + emits(0, 40) + "}": false,
		"parse { " + emits(0, 32) + emits(0, 32) + "emit n31 = len; }": true, "parse { " + emits(0, 32) + emits(0, 32) + "emit n32 = len; }": false,
		"parse { " + emits(0, 32) + "accept; " + emits(32, 40) + "}": true, "parse { " + emits(0, 32) + "if 1:u1 { reject 1; emit a = len; } }": true, "parse { " + emits(0, 32) + "if 1:u1 { emit a = len; reject 1; } }": false,
		f + "parse { " + emits(0, 32) + "}": true, f + "parse { " + emits(0, 31) + "let x = f(); let y = f(); }": true, f + "parse { " + emits(0, 32) + "let x = f(); }": false, f + "parse { " + emits(0, 31) + "emit y = f(); }": false,
		f + "parse { " + emits(0, 31) + "emit y = g(); }": true, f + "parse { " + emits(0, 32) + "emit y = g(); }": false, f + "parse { " + emits(0, 31) + "emit in1 = f(); }": true, f + "parse { let x = g(); " + emits(0, 40) + "}": true,
	} {
		n := treeOf(t, source)
		if e := expectModel(t, n); e != api.OK && fits || e != api.ErrLimit && !fits {
			t.Errorf("%s: error %d", source, e)
		}
	}
}

// P7.1, G1: up to 3000 calls, of which only those count that are written.
func TestManyCalls(t *testing.T) {
	const f = "func f(a: u1) u1 { return a; } func h() u1 { accept; return 1:u1; } func g(a: u1, b: u1) u1 { a = f(f(b)); return f(a); } "
	const four = "if x { x = f(f(f(f(x)))); } else { accept; x = f(x); }"
	for _, x := range []struct {
		last  string
		many  int
		again bool // whether another one can be behind it
	}{
		{"x = f(x);", 1, true}, {"x = f(f(f(f(f(f(f(f(x))))))));", 8, true}, {"x = g(x, f(x));", 5, true}, {"x = g(f(x), g(x, f(x)));", 10, true}, {four, 4, true},
		{"let y = x; y = f(y); while y { y = f(y); }", 2, true}, {"while f(x) { }", 1, true}, {"if x { x = f(x); } else { x = f(f(x)); }", 3, true}, {"if x { } if x { accept; x = f(x); }", 0, true},
		// where a call ends the block, those behind it do not count, nor the one whose argument it is
		{"x = h();", 1, false}, {"x = f(h());", 1, false}, {"x = f(f(h()));", 1, false}, {"x = g(f(x), h());", 2, false}, {"x = g(h(), f(x));", 1, false}, {"x = (h() + f(x));", 1, false}, {"x = (f(x) + h());", 2, false}, {"accept; x = f(x);", 0, false}, {"if h() { x = f(x); } else { x = f(x); } x = f(x);", 1, false}, {"while h() { x = f(x); } x = f(x);", 1, false}, {"reject 1; while f(x) { }", 0, false},
	} {
		first := times{"let x = 1:u1;", 1}
		eights := times{"x = f(f(f(f(f(f(f(f(x))))))));", (3000 - x.many) / 8}
		rest := (3000 - x.many) % 8
		fits := program(t, f, first, eights, times{"x = f(x);", rest}, times{x.last, 1})
		if c := codeOf(t, fits); !ssa.Valid(c) {
			t.Error(x.last)
		}
		expectModel(t, fits)
		tooMany := program(t, f, first, eights, times{"x = f(x);", rest + 1}, times{x.last, 1})
		expectError(t, tooMany, api.ErrLimit)
		behind := program(t, f, first, eights, times{"x = f(x);", rest}, times{x.last, 1}, times{"x = f(x);", 1})
		if x.again {
			expectError(t, behind, api.ErrLimit)
		} else {
			expectSame(t, behind, codeOf(t, behind), codeOf(t, fits))
		}
		expectModel(t, behind)
	}
	expectError(t, program(t, f, times{"let x = 1:u1;", 1}, times{"x = f(x);", 1000000}), api.ErrLimit)
}

// tower is functions, of which each calls the one before many times.
func tower(first, calls string) string {
	text := "func f0(a: u1) u1 { " + first + " return a; } "
	for i := 1; i < 12; i++ {
		text += fmt.Sprintf("func f%d(a: u1) u1 { return %s; } ", i, strings.ReplaceAll(calls, "f", fmt.Sprint("f", i-1)))
	}
	return text
}

// P1: functions whose calls are far too many to write.
func TestTowers(t *testing.T) {
	for _, calls := range []string{"f(f(f(f(f(f(f(f(a))))))))", "(f(a) & (f(a) & (f(a) & f(a))))"} {
		for first, fits := range map[string]bool{"": false, "a = ~a;": false, "if a { accept; }": false, "accept;": true, "reject 3;": true, "while a { reject 3; }": false} {
			items := tower(first, calls)
			n := treeOf(t, items+"parse { emit x = f11(1:u1); }")
			if c, e := lower.Lower(n); fits && (e != api.OK || len(c.Insts) != 1) || !fits && e != api.ErrLimit {
				t.Error(calls, first, e)
			}
			// what is not written
			for _, parse := range []string{"parse { }", "parse { accept; emit x = f11(1:u1); }", "parse { if 1:u1 { accept; if f11(1:u1) { } else { while f11(1:u1) { } } } }"} {
				if c := codeOf(t, treeOf(t, items+parse)); len(c.Insts) > 1 {
					t.Error(calls, first, parse, len(c.Insts))
				}
			}
		}
	}
}

// P1: programs with much more of everything than a source can have.
func TestWidePrograms(t *testing.T) {
	const many = 100000
	for text, want := range map[string]int{"same p = p;": 2, "x = x;": 2, "accept;": 2, "if (x == x) { accept; } else { reject 3; }": 3, "accept; while (x == x) { emit x = in[in[x]]; }": 2} {
		n := program(t, "", times{"let x = len; new p: u8[x];", 1}, times{text, many})
		if c := codeOf(t, n); len(c.Insts) != want || !ssa.Valid(c) {
			t.Error(text, len(c.Insts))
		}
	}
	n := treeOf(t, "func f(a: u8) u8 { a = a; return a; } parse { if 1:u1 { emit x = f(len); } }")
	wide := clone(n)
	body := &wide.Kids[0].Kids[1]
	body.Kids = append(slices.Repeat(body.Kids[:1], many), body.Kids[1])
	expectSame(t, api.Node{}, codeOf(t, wide), codeOf(t, n))
	for i, node := range []api.Node{{Kind: api.NodeStruct, Name: "s", Kids: []api.Node{{Kind: api.NodeField, Name: "a", W: 8}}}, n.Kids[0]} {
		wide := clone(n)
		wide.Kids = append(slices.Repeat([]api.Node{node}, many), wide.Kids...)
		if !parser.Valid(wide) {
			t.Error(i)
		}
		expectError(t, wide, api.ErrArg)
	}
}

// P7.1: the argument is not changed, and results share no memory.
func TestResults(t *testing.T) {
	for _, source := range append(sources(50, 300), full) {
		n := treeOf(t, source)
		before := fmt.Sprint(n)
		first, second := codeOf(t, n), codeOf(t, n)
		want := fmt.Sprint(first)
		// Each list is filled up to its capacity with a number of its own.
		var lists [][]int
		for i := range first.Blocks {
			e := &first.Blocks[i].End
			lists = append(lists, e.ToArgs, e.ElseArgs)
		}
		lists = append(lists, first.Structs...)
		for i, l := range lists {
			l = l[:cap(l)]
			for j := range l {
				l[j] = -1 - i
			}
		}
		for i, l := range lists {
			if slices.ContainsFunc(l[:cap(l)], func(v int) bool { return v != -1-i }) {
				t.Fatalf("%s\nlists share memory", source)
			}
		}
		clear(first.Insts)
		clear(first.Blocks)
		clear(first.Names)
		if fmt.Sprint(second) != want || fmt.Sprint(codeOf(t, n)) != want {
			t.Fatalf("%s\ntwo results share memory", source)
		}
		if fmt.Sprint(n) != before {
			t.Fatalf("%s\nthe argument was changed", source)
		}
	}
}
