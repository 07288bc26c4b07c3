package flow_test

import (
	"fmt"
	"math/rand"
	"slices"
	"strconv"
	"strings"
	"testing"

	"formfinder/api"
	"formfinder/lower"
	"formfinder/parser"
	"formfinder/ssa"
)

// codeOf is code with a word for each block: - accepts, ! rejects, 3 jumps to the block 3, and 4,5 branches to 4 and 5. The block 0 has a bit, which the branches are on.
func codeOf(words string) api.Code {
	c := api.Code{Insts: []api.Inst{{Op: api.OpConst, W: 1, N: 1}}}
	for i, word := range strings.Fields(words) {
		b := api.Block{From: min(i, 1), Until: 1, End: api.End{Kind: api.EndJump}}
		switch to, other, branches := strings.Cut(word, ","); {
		case word == "-":
			b.End.Kind = api.EndAccept
		case word == "!":
			b.End.Kind = api.EndReject
		case branches:
			b.End.Kind = api.EndBranch
			b.End.Else, _ = strconv.Atoi(other)
			fallthrough
		default:
			b.End.To, _ = strconv.Atoi(to)
		}
		c.Blocks = append(c.Blocks, b)
	}
	return c
}

// wordsOf is the words of code.
func wordsOf(c api.Code) string {
	var l []string
	for i, b := range c.Blocks {
		switch s := successors(c, i); len(s) {
		case 0:
			l = append(l, map[int]string{api.EndAccept: "-", api.EndReject: "!"}[b.End.Kind])
		case 1:
			l = append(l, fmt.Sprint(s[0]))
		case 2:
			l = append(l, fmt.Sprint(s[0], ",", s[1]))
		}
	}
	return strings.Join(l, " ")
}

// fromEdges is code whose blocks have at most two successors each.
func fromEdges(edges [][]int) api.Code {
	var l []string
	for i, to := range edges {
		switch len(to) {
		case 0:
			l = append(l, []string{"-", "!"}[i%2])
		case 1:
			l = append(l, fmt.Sprint(to[0]))
		case 2:
			l = append(l, fmt.Sprint(to[0], ",", to[1]))
		}
	}
	return codeOf(strings.Join(l, " "))
}

func pick[T any](r *rand.Rand, l []T) T { return l[r.Intn(len(l))] }

// shuffled is a graph with other numbers of the blocks, but for the block 0, and with its edges in another order.
func shuffled(r *rand.Rand, edges [][]int) [][]int {
	numbers := []int{0}
	for _, n := range r.Perm(len(edges) - 1) {
		numbers = append(numbers, n+1)
	}
	l := make([][]int, len(edges))
	for i, to := range edges {
		for _, j := range to {
			l[numbers[i]] = append(l[numbers[i]], numbers[j])
		}
		r.Shuffle(len(to), func(a, b int) { s := l[numbers[i]]; s[a], s[b] = s[b], s[a] })
	}
	return l
}

// tree is a graph in which each block but the block 0 has an edge from a lesser one, one of the last few that can have one more.
func tree(r *rand.Rand, blocks, last int) [][]int {
	edges := make([][]int, blocks)
	for i := 1; i < blocks; i++ {
		var l []int
		for j := range i {
			if len(edges[j]) < 2 {
				l = append(l, j)
			}
		}
		from := pick(r, l[max(0, len(l)-last):])
		edges[from] = append(edges[from], i)
	}
	return edges
}

// addEdges adds random edges, as many at most: each one to a block of a list.
func addEdges(r *rand.Rand, edges [][]int, many int, to func(from int) []int) {
	for range many {
		from := r.Intn(len(edges))
		if l := to(from); len(edges[from]) < 2 && len(l) > 0 {
			edges[from] = append(edges[from], pick(r, l))
		}
	}
}

// span is the numbers from low to high.
func span(low, high int) []int {
	var l []int
	for i := low; i <= high; i++ {
		l = append(l, i)
	}
	return l
}

// anyCode is random code with as many blocks.
func anyCode(r *rand.Rand, blocks int) api.Code {
	edges := tree(r, blocks, 1+r.Intn(blocks))
	addEdges(r, edges, r.Intn(2*blocks), func(int) []int { return span(1, blocks-1) })
	return fromEdges(shuffled(r, edges))
}

// reducibleCode is random reducible code with as many blocks: edges that lead on, and edges to blocks that dominate those in which they begin.
func reducibleCode(r *rand.Rand, blocks int) api.Code {
	edges := tree(r, blocks, 1+r.Intn(blocks))
	addEdges(r, edges, r.Intn(blocks+1), func(from int) []int { return span(from+1, blocks-1) })
	c := fromEdges(edges)
	addEdges(r, edges, r.Intn(2*blocks), func(from int) []int {
		return slices.DeleteFunc(span(1, blocks-1), func(d int) bool { return isReached(c, from, d) })
	})
	return fromEdges(shuffled(r, edges))
}

// meetingCode is random code with about as many blocks, some of whose branches meet, and some others nearly.
func meetingCode(r *rand.Rand, blocks int) api.Code {
	edges := tree(r, (blocks+1)/2, 2)
	addEdges(r, edges, r.Intn(2), func(int) []int { return span(1, len(edges)-1) })
	for len(edges) < blocks {
		i, many := r.Intn(len(edges)), len(edges)
		switch to := edges[i]; {
		case len(to) == 0:
			edges[i] = []int{many}
			edges = append(edges, nil)
		case len(to) == 1 && r.Intn(2) == 0:
			edges[i] = []int{many, to[0]}
			edges = append(edges, to)
		case len(to) == 1:
			edges[i] = []int{many, many + 1}
			edges = append(edges, to, slices.Clone(to))
		}
		if r.Intn(blocks) == 0 {
			addEdges(r, edges, 1, func(int) []int { return span(1, len(edges)-1) })
		}
		if !slices.ContainsFunc(edges, func(to []int) bool { return len(to) < 2 }) {
			break
		}
	}
	return fromEdges(shuffled(r, edges))
}

// codes are random codes of up to about ten blocks, of three sorts.
func codes(seed int64, many int) []api.Code {
	r := rand.New(rand.NewSource(seed))
	var l []api.Code
	for i := range many {
		l = append(l, sorts()[i%3](r, 1+i/3%11))
	}
	return l
}

// large are random codes of many blocks.
func large(seed int64, many int) []api.Code {
	r := rand.New(rand.NewSource(seed))
	var l []api.Code
	for i := range many {
		l = append(l, sorts()[i%3](r, 20+r.Intn(60)))
	}
	return l
}

func sorts() []func(r *rand.Rand, blocks int) api.Code {
	return []func(r *rand.Rand, blocks int) api.Code{anyCode, reducibleCode, meetingCode}
}

// compile is the code of a source.
func compile(t *testing.T, source string) api.Code {
	t.Helper()
	tree, diags := parser.Parse(source)
	c, e := lower.Lower(tree)
	if len(diags) > 0 || e != api.OK {
		t.Fatalf("%s\n%v, error %d", source, diags, e)
	}
	return c
}

// writeStatements writes random statements.
func writeStatements(r *rand.Rand, b *strings.Builder, depth int) {
	for range r.Intn(4) {
		switch n := r.Intn(10); {
		case n < 3 && depth > 0:
			b.WriteString("while (x < in[x]) { ")
			writeStatements(r, b, depth-1)
			b.WriteString("} ")
		case n < 6 && depth > 0:
			b.WriteString("if (y == x) { ")
			writeStatements(r, b, depth-1)
			if r.Intn(2) == 0 {
				b.WriteString("} else { ")
				writeStatements(r, b, depth-1)
			}
			b.WriteString("} ")
		case n == 6:
			b.WriteString(pick(r, []string{"accept; ", "reject 7; "}))
		default:
			b.WriteString(pick(r, []string{"x = (x + 1:u8); ", "y = in[y]; ", "emit a = x; ", "let z = y; x = z; "}))
		}
	}
}

// sources are random sources.
func sources(seed int64, many int) []string {
	r := rand.New(rand.NewSource(seed))
	var l []string
	for range many {
		var b strings.Builder
		// a name is not declared twice in a function
		writeStatements(r, &b, 4)
		text := b.String()
		for i := 0; strings.Contains(text, "let z ="); i++ {
			name := fmt.Sprint("z", i)
			text = strings.Replace(text, "let z = y; x = z;", "let "+name+" = y; x = "+name+";", 1)
		}
		l = append(l, "parse { let x = len; let y = 0:u8; "+text+"}")
	}
	return l
}

// fullCode is valid code with structs, names, pointers, parameters of all kinds, and a loop.
func fullCode(t *testing.T) api.Code {
	return compile(t, "struct s { a: u8, b: u16 } func f(n: u8) u8 { if (n == 0:u8) { reject 3; } return (n - 1:u8); } parse { make p: s; make q: s; new r: u16[4:u8]; let i = 0:u8; let w = 5:u16; while (i < f(len)) { if (in[i] == 3:u8) { same p = q; w = (w + 1:u16); } else { same q = p; } r[i] = w; i = (i + 1:u8); } p.a = i; emit a = p.a; emit b = r[0:u8]; free q; accept; }")
}

// isValid fails the test unless code is valid, or not, as it says.
func isValid(t *testing.T, c api.Code, want bool) {
	t.Helper()
	if ssa.Valid(c) != want {
		t.Fatalf("%+v\nis valid: %v", c, !want)
	}
}
