package lower_test

import (
	"fmt"
	"math"
	"math/rand"
	"slices"
	"strings"
	"testing"

	"formfinder/api"
	"formfinder/ssa"
)

// placed is a tree with other offsets: what a function says of the numbers of its nodes.
func placed(n api.Node, at func(i int) int) api.Node {
	n = clone(n)
	for i, node := range nodesOf(&n) {
		node.At = at(i)
	}
	return n
}

func same(i int) int { return i }

// expectSame fails the test unless two codes are the same.
func expectSame(t *testing.T, n api.Node, got, want api.Code) {
	t.Helper()
	if !equalCode(got, want) {
		place := func(at int) string { return fmt.Sprint("@", at) }
		t.Fatalf("%v:\n%s; want\n%s", n, listing(got, place), listing(want, place))
	}
}

// P7.2
func TestValid(t *testing.T) {
	r := rand.New(rand.NewSource(1))
	blocks, most := 0, 0
	for _, s := range samples(t, 2, 1500) {
		for _, at := range []func(int) int{same, func(int) int { return 0 }, func(int) int { return 4000 }, func(int) int { return r.Intn(4001) }} {
			if c := codeOf(t, placed(s.tree, at)); !ssa.Valid(c) {
				t.Fatalf("%s\n%s", s.source, listing(c, noPlace))
			}
		}
		if !ssa.Valid(s.code) {
			t.Fatalf("%s\n%s", s.source, listing(s.code, noPlace))
		}
		blocks += len(s.code.Blocks)
		most = max(most, len(s.code.Blocks))
	}
	if blocks < 9000 || most < 50 {
		t.Error("the programs are small:", blocks, most)
	}
}

// placesOf are all places of code.
func placesOf(c api.Code) []int {
	var l []int
	moved(c, func(at int) int {
		l = append(l, at)
		return at
	})
	return l
}

// P7.3
func TestPlacesOfNodes(t *testing.T) {
	r := rand.New(rand.NewSource(3))
	for _, s := range samples(t, 4, 800) {
		offsets := map[int]bool{}
		n := placed(s.tree, func(int) int {
			at := r.Intn(1000000)
			offsets[at] = true
			return at
		})
		for _, at := range placesOf(codeOf(t, n)) {
			if !offsets[at] {
				t.Fatalf("%s\nat %d there is no node", s.source, at)
			}
		}
		for _, at := range placesOf(s.code) {
			if at < 0 || at >= len(s.source) || strings.ContainsRune(" \n)];", rune(s.source[at])) {
				t.Fatalf("%s\nat %d there is no node", s.source, at)
			}
		}
	}
}

// naming gives names new ones, each one always the same, and different ones for different names.
type naming struct {
	r     *rand.Rand
	names map[string]string
	taken map[string]bool
}

func newNaming(r *rand.Rand) *naming {
	return &naming{r: r, names: map[string]string{}, taken: map[string]bool{}}
}

func (m *naming) of(name string) string {
	if to, found := m.names[name]; found {
		return to
	}
	to := pick(m.r, someNames)
	for m.taken[to] || m.r.Intn(3) == 0 && len(to) < 11 {
		to += fmt.Sprint(m.r.Intn(10))
	}
	m.names[name], m.taken[to] = to, true
	return to
}

// renamed is a program with other names of variables, parameters, items and fields.
func renamed(r *rand.Rand, n api.Node) api.Node {
	n = clone(n)
	items, fields := newNaming(r), newNaming(r)
	for i := range n.Kids {
		variables := newNaming(r)
		for _, node := range nodesOf(&n.Kids[i]) {
			switch node.Kind {
			case api.NodeStruct, api.NodeFunc, api.NodeCall:
				node.Name = items.of(node.Name)
			case api.NodeField:
				node.Name = fields.of(node.Name)
			case api.NodeMake:
				node.Name, node.Part = variables.of(node.Name), items.of(node.Part)
			case api.NodeSame:
				node.Name, node.Part = variables.of(node.Name), variables.of(node.Part)
			case api.NodePart, api.NodePutPart:
				node.Name, node.Part = variables.of(node.Name), fields.of(node.Part)
			case api.NodeParam, api.NodeLet, api.NodeSet, api.NodePut, api.NodeNew, api.NodeFree, api.NodeVar, api.NodeCell:
				node.Name = variables.of(node.Name)
			}
		}
	}
	return n
}

// P7.4
func TestNames(t *testing.T) {
	r := rand.New(rand.NewSource(5))
	for _, s := range append(samples(t, 6, 800), sampled{full, treeOf(t, full), codeOfSource(t, full)}) {
		for range 4 {
			n := renamed(r, s.tree)
			expectSame(t, n, codeOf(t, n), s.code)
		}
	}
	// those of emits are those of the code
	c := codeOfSource(t, "parse { let a = len; emit a = a; emit b = a; }")
	d := codeOfSource(t, "parse { let b = len; emit a = b; emit c = b; }")
	d.Names = []string{"a", "b"}
	expectSame(t, api.Node{}, d, c)
}

// P7.5
func TestOffsets(t *testing.T) {
	r := rand.New(rand.NewSource(7))
	for _, s := range append(samples(t, 8, 500), sampled{full, treeOf(t, full), codeOfSource(t, full)}) {
		numbered := codeOf(t, placed(s.tree, same))
		expectSame(t, s.tree, withoutPlaces(numbered), withoutPlaces(s.code))
		for _, at := range []func(int) int{
			func(i int) int { return 100000 - i }, func(i int) int { return i % 3 }, func(i int) int { return -i }, func(int) int { return math.MinInt }, func(i int) int { return math.MaxInt - i },
		} {
			n := placed(s.tree, at)
			expectSame(t, n, codeOf(t, n), moved(numbered, at))
		}
		offsets := map[int]int{}
		random := func(i int) int {
			if _, found := offsets[i]; !found {
				offsets[i] = int(r.Uint64())
			}
			return offsets[i]
		}
		n := placed(s.tree, random)
		expectSame(t, n, codeOf(t, n), moved(numbered, random))
	}
}

// insertDead inserts statements into blocks of a tree behind their first accept or reject, and reports whether there is such a place.
func insertDead(r *rand.Rand, n *api.Node, statement func() api.Node) bool {
	inserted := false
	for i := range n.Kids {
		inserted = insertDead(r, &n.Kids[i], statement) || inserted
	}
	end := slices.IndexFunc(n.Kids, func(k api.Node) bool { return k.Kind == api.NodeAccept || k.Kind == api.NodeReject })
	if n.Kind != api.NodeBlock || end < 0 {
		return inserted
	}
	most := len(n.Kids)
	if n.Kids[most-1].Kind == api.NodeReturn {
		most--
	}
	for range 1 + r.Intn(3) {
		n.Kids = slices.Insert(n.Kids, end+1+r.Intn(most-end), statement())
	}
	return true
}

// deadStatements are statements that change no variable.
var deadStatements = []string{"accept;", "reject 0;", "reject 255;", "emit zz = in[len];", "if (len == 1:u8) { accept; } else { emit zz = len; }", "while 1:u1 { emit zz = len; }", "if 1:u1 { while 1:u1 { if 1:u1 { } } }"}

// P7.6
func TestDeadStatements(t *testing.T) {
	r := rand.New(rand.NewSource(9))
	inserted, others := 0, 0
	for _, s := range samples(t, 10, 2000) {
		rejects, all := clone(s.tree), clone(s.tree)
		if !insertDead(r, &rejects, func() api.Node { return api.Node{Kind: api.NodeReject, N: uint64(r.Intn(256)), At: -1} }) {
			continue
		}
		inserted++
		expectSame(t, rejects, codeOf(t, rejects), s.code)
		insertDead(r, &all, func() api.Node { return treeOf(t, "parse { "+pick(r, deadStatements)+" }").Kids[0].Kids[0] })
		if expectModel(t, all) == api.OK { // otherwise it is too deep
			expectSame(t, all, codeOf(t, all), s.code)
			others++
		}
	}
	if inserted < 700 || others < 700 {
		t.Error("few programs with ends:", inserted, others)
	}
}

// P7.6: what changes variables is not run, either.
func TestDeadChanges(t *testing.T) {
	r := rand.New(rand.NewSource(11))
	changed := 0
	for _, s := range samples(t, 12, 1200) {
		n := clone(s.tree)
		parse := &n.Kids[len(n.Kids)-1]
		parse.Kids = slices.Insert(parse.Kids, 0, treeOf(t, "parse { let zz1 = len; new zz2: u8[len]; new zz3: u8[len]; }").Kids[0].Kids...)
		live := clone(n)
		block := &n.Kids[len(n.Kids)-1]
		if !insertDead(r, block, func() api.Node {
			return treeOf(t, "parse { "+pick(r, []string{"zz1 = 1:u8;", "same zz2 = zz3;", "zz2[len] = zz1;", "if 1:u1 { zz1 = 2:u8; }"})+" }").Kids[0].Kids[0]
		}) {
			continue
		}
		if expectModel(t, n) != api.OK {
			continue // there are too many variables
		}
		changed++
		expectMeaning(t, live, codeOf(t, n), []byte{1, 2, 3}[:r.Intn(4)])
	}
	if changed < 400 {
		t.Error("few programs with ends:", changed)
	}
	expectCode(t, "parse { let a = 1:u8; while (a == 1:u8) { reject 3; a = 2:u8; } emit x = a; }", `
		0: 0 const.8 1; jump 1(0)
		1: 1 param.8; 2 const.8 1; 3 eq.1 1 2; branch 3 to 2 else 3
		2: reject 3
		3: 4 emit 1 x; reject 0
	`)
}

// blocksOf are the blocks of a node.
func blocksOf(n *api.Node) []*api.Node {
	return slices.DeleteFunc(nodesOf(n), func(k *api.Node) bool { return k.Kind != api.NodeBlock })
}

// oneCall is functions, of which zf only returns an expression, statements with a call of it, and the same statements without one. In both of them zy is a variable.
func oneCall(r *rand.Rand) (functions, call, plain string) {
	a := &author{r: r, left: 20, structs: map[string][]thing{}, visible: []thing{{name: "zy", width: 8}}}
	var params []thing
	var typed, args []string
	for i := range r.Intn(5) {
		p := thing{name: fmt.Sprint("zp", i), width: a.width()}
		arg := a.expression(p.width, 5) // without a call: there are no functions yet
		params, typed, args = append(params, p), append(typed, p.name+": "+typeOf(p.width)), append(args, arg)
		plain += "let " + p.name + " = " + arg + "; "
	}
	a.visible, a.left = params, 15
	a.funcs = []thing{{name: "zg", width: 8, params: []int{8}}}
	w := a.width()
	body := a.expression(w, 5)
	functions = "func zg(zx: u8) u8 { if (zx == len) { emit zz = zx; zx = 1:u8; } return zx; } func zf(" + strings.Join(typed, ", ") + ") " + typeOf(w) + " { return " + body + "; } "
	end := pick(r, []string{"emit zz = zv;", "if (zv == zv) { zv = " + a.number(w) + "; } while (zv == zv) { emit zz = zv; }"})
	return functions, "let zv = zf(" + strings.Join(args, ", ") + "); " + end, plain + "let zv = " + body + "; " + end
}

// P7.7
func TestCallsOfExpressions(t *testing.T) {
	r := rand.New(rand.NewSource(13))
	compared := 0
	for _, source := range sources(14, 1000) {
		functions, call, plain := oneCall(r)
		n := treeOf(t, source)
		n.Kids = slices.Concat(treeOf(t, functions+"parse { }").Kids[:2], n.Kids)
		parse := &n.Kids[len(n.Kids)-1]
		parse.Kids = slices.Insert(parse.Kids, 0, treeOf(t, "parse { let zy = len; }").Kids[0].Kids[0])
		block := r.Intn(len(blocksOf(parse)))
		at := r.Intn(100)
		insert := func(text string) api.Node {
			m := clone(n)
			b := blocksOf(&m.Kids[len(m.Kids)-1])[block]
			i := at % (len(b.Kids) + 1)
			if block == 0 {
				i = max(i, 1) // behind zy
			}
			b.Kids = slices.Insert(b.Kids, i, treeOf(t, "parse { "+text+" }").Kids[0].Kids...)
			return m
		}
		with, without := insert(call), insert(plain)
		if expectModel(t, with) != api.OK || expectModel(t, without) != api.OK {
			continue // there are too many variables, or it is too deep
		}
		compared++
		expectSame(t, with, withoutPlaces(codeOf(t, with)), withoutPlaces(codeOf(t, without)))
	}
	if compared < 700 {
		t.Error("few programs:", compared)
	}
}

// withElses is a tree with an empty block for each else that is not there, or for some of them.
func withElses(n api.Node, choose func() bool) (api.Node, int) {
	n = clone(n)
	many := 0
	for _, node := range nodesOf(&n) {
		if node.Kind == api.NodeIf && len(node.Kids) == 2 && choose() {
			node.Kids = append(node.Kids, api.Node{Kind: api.NodeBlock, At: -1})
			many++
		}
	}
	return n, many
}

// P7.8
func TestEmptyElses(t *testing.T) {
	r := rand.New(rand.NewSource(15))
	added := 0
	for _, s := range samples(t, 16, 1500) {
		for _, choose := range []func() bool{func() bool { return true }, func() bool { return r.Intn(2) == 0 }} {
			n, many := withElses(s.tree, choose)
			if expectModel(t, n) != api.OK {
				continue // there are too many blocks
			}
			added += many
			c := codeOf(t, n)
			if !slices.Equal(c.Insts, s.code.Insts) || !slices.Equal(c.Names, s.code.Names) {
				t.Fatalf("%s\n%s; want\n%s", s.source, listing(c, noPlace), listing(s.code, noPlace))
			}
		}
	}
	if added < 2000 {
		t.Error("few ifs:", added)
	}
	// as long as there are not too many blocks
	source := "parse { " + strings.Repeat("if 1:u1 { } ", 133) + "}"
	n, _ := withElses(treeOf(t, source), func() bool { return true })
	if c := codeOf(t, n); len(c.Blocks) != 400 || !slices.Equal(c.Insts, codeOfSource(t, source).Insts) {
		t.Error(len(c.Blocks))
	}
	n, _ = withElses(treeOf(t, "parse { "+strings.Repeat("if 1:u1 { } ", 134)+"}"), func() bool { return true })
	if e := expectModel(t, n); e != api.ErrLimit {
		t.Error(e)
	}
}
