package check_test

import (
	"fmt"
	"slices"

	"formfinder/api"
)

// spot is a node of a program with its place: the numbers of the kids that lead to it.
type spot struct {
	node api.Node
	path []int
}

func (s spot) kid(i int) spot { return spot{s.node.Kids[i], append(slices.Clone(s.path), i)} }

// reading is a program as the chapter reads it. Nothing is gone through for what a name means at a place: what the chapter says about it is looked for in the whole tree.
type reading struct {
	program api.Node
	spots   []spot         // all nodes, in the order in which they are gone through
	items   map[int][]spot // those that are parameters, or declare variables, by the numbers of their items
	widths  map[string]int
}

func readingOf(n api.Node) *reading {
	m := &reading{program: n, items: map[int][]spot{}, widths: map[string]int{}}
	var collect func(s spot)
	collect = func(s spot) {
		m.spots = append(m.spots, s)
		if slices.Contains([]int{api.NodeParam, api.NodeLet, api.NodeNew, api.NodeMake}, s.node.Kind) {
			m.items[s.path[0]] = append(m.items[s.path[0]], s)
		}
		for i := range s.node.Kids {
			collect(s.kid(i))
		}
	}
	collect(spot{node: n})
	return m
}

// isWithin reports whether a place is that of a node with a path, or one below it.
func isWithin(place, path []int) bool {
	return len(place) >= len(path) && slices.Equal(place[:len(path)], path)
}

// declares is the first one that declares a name in the function of a spot.
func (m *reading) declares(s spot, name string) (spot, bool) {
	for _, o := range m.items[s.path[0]] {
		if o.node.Name == name {
			return o, true
		}
	}
	return spot{}, false
}

// known is what declares a variable that is known at a spot.
func (m *reading) known(s spot, name string) (spot, bool) {
	d, found := m.declares(s, name)
	if !found || d.node.Kind == api.NodeParam {
		return d, found
	}
	last := len(d.path) - 1
	if !isWithin(s.path, d.path[:last]) || s.path[last] <= d.path[last] {
		return spot{}, false
	}
	return d, true
}

// item is the number of the item of a name and of a kind, at a spot.
func (m *reading) item(s spot, kind int, name string) int {
	return slices.IndexFunc(m.program.Kids[:s.path[0]], func(n api.Node) bool { return n.Kind == kind && n.Name == name })
}

// what is "integer", "array", "struct" with the number of its item, or "" for a variable of no kind, and its width.
func (m *reading) what(d spot) (string, int) {
	switch d.node.Kind {
	case api.NodeParam:
		return "integer", d.node.W
	case api.NodeNew:
		return "array", d.node.W
	case api.NodeMake:
		if i := m.item(d, api.NodeStruct, d.node.Part); i >= 0 {
			return fmt.Sprint("struct ", i), 0
		}
	case api.NodeLet:
		if w := m.width(d.kid(0)); w > 0 {
			return "integer", w
		}
	}
	return "", 0
}

// field is the width of a field of what a variable points to: 0 if there is none.
func (m *reading) field(what, name string) int {
	var i int
	if _, err := fmt.Sscanf(what, "struct %d", &i); err != nil {
		return 0
	}
	for _, f := range m.program.Kids[i].Kids {
		if f.Name == name {
			return f.W
		}
	}
	return 0
}

// width is that of an expression: 0 if it has none.
func (m *reading) width(s spot) int {
	key := fmt.Sprint(s.path)
	if w, found := m.widths[key]; found {
		return w
	}
	w := m.newWidth(s)
	m.widths[key] = w
	return w
}

func (m *reading) newWidth(s spot) int {
	n := s.node
	what, w := "", 0
	if d, found := m.known(s, n.Name); found {
		what, w = m.what(d)
	}
	switch n.Kind {
	case api.NodeNumber, api.NodeCast, api.NodeSext:
		return n.W
	case api.NodeIn, api.NodeLen:
		return 8
	case api.NodeVar:
		if what == "integer" {
			return w
		}
	case api.NodeCell:
		if what == "array" {
			return w
		}
	case api.NodePart:
		return m.field(what, n.Part)
	case api.NodeCall:
		if i := m.item(s, api.NodeFunc, n.Name); i >= 0 {
			return m.program.Kids[i].W
		}
	case api.NodeBin:
		a, b := m.width(s.kid(0)), m.width(s.kid(1))
		if n.N >= api.SignEq {
			return 1
		}
		if a == b {
			return a
		}
	case api.NodeNot:
		return m.width(s.kid(0))
	}
	return 0
}

// compared reports whether two widths are there, and not the same.
func compared(a, b int) bool { return a > 0 && b > 0 && a != b }

// count is how many nodes are as a function says.
func count(l []api.Node, is func(n api.Node) bool) int {
	many := 0
	for _, n := range l {
		if is(n) {
			many++
		}
	}
	return many
}

// sheet has the errors of a node, in the order of its row in the table.
type sheet []api.Errno

func (l *sheet) add(wrong bool, e api.Errno) {
	if wrong {
		*l = append(*l, e)
	}
}

// errors are those of a spot.
func (m *reading) errors(s spot) sheet {
	n := s.node
	switch n.Kind {
	case api.NodeStruct, api.NodeFunc, api.NodeField, api.NodeParam:
		return m.listed(s)
	case api.NodeLet, api.NodeNew, api.NodeMake:
		return m.declaration(s)
	case api.NodeSet, api.NodePut, api.NodeCell, api.NodePutPart, api.NodePart, api.NodeFree, api.NodeVar, api.NodeSame:
		return m.use(s)
	}
	var l sheet
	switch n.Kind {
	case api.NodeBlock:
		if len(s.path) == 2 && m.program.Kids[s.path[0]].Kind == api.NodeFunc {
			l.add(len(n.Kids) == 0 || n.Kids[len(n.Kids)-1].Kind != api.NodeReturn, api.ErrEnd)
		}
	case api.NodeIf, api.NodeWhile:
		l.add(compared(m.width(s.kid(0)), 1), api.ErrWidth)
	case api.NodeReject:
		l.add(n.N > 255, api.ErrRange)
	case api.NodeReturn:
		f := m.program.Kids[s.path[0]]
		isLast := f.Kind == api.NodeFunc && len(s.path) == 3 && s.path[2] == len(f.Kids[len(f.Kids)-1].Kids)-1
		l.add(!isLast, api.ErrEnd)
		l.add(compared(m.width(s.kid(0)), f.W), api.ErrWidth)
	case api.NodeNumber:
		l.add(n.W < 64 && n.N >= 1<<n.W, api.ErrRange)
	case api.NodeBin:
		l.add(compared(m.width(s.kid(0)), m.width(s.kid(1))), api.ErrWidth)
	case api.NodeSext:
		l.add(n.W < m.width(s.kid(0)), api.ErrWidth)
	case api.NodeCall:
		i := m.item(s, api.NodeFunc, n.Name)
		if i < 0 {
			return sheet{api.ErrName}
		}
		params := m.program.Kids[i].Kids
		params = params[:len(params)-1]
		if len(params) != len(n.Kids) {
			return sheet{api.ErrCount}
		}
		for j, p := range params {
			l.add(compared(p.W, m.width(s.kid(j))), api.ErrWidth)
		}
	}
	return l
}

// listed are the errors of items, fields and parameters.
func (m *reading) listed(s spot) sheet {
	n, siblings := s.node, m.program.Kids
	if len(s.path) > 1 {
		siblings = m.program.Kids[s.path[0]].Kids
	}
	before := siblings[:s.path[len(s.path)-1]]
	limit := map[int]int{api.NodeStruct: 8, api.NodeFunc: 12, api.NodeField: 8, api.NodeParam: 4}[n.Kind]
	var l sheet
	l.add(count(before, func(o api.Node) bool { return o.Name == n.Name }) > 0, api.ErrTwice)
	l.add(count(before, func(o api.Node) bool { return o.Kind == n.Kind }) >= limit, api.ErrLimit)
	return l
}

// declaration are the errors of let, new and make.
func (m *reading) declaration(s spot) sheet {
	var l sheet
	d, _ := m.declares(s, s.node.Name)
	l.add(!slices.Equal(d.path, s.path), api.ErrTwice)
	names := map[string]bool{}
	for _, o := range m.items[s.path[0]] {
		if slices.Equal(o.path, s.path) {
			break
		}
		names[o.node.Name] = true
	}
	l.add(len(names) >= 40, api.ErrLimit)
	l.add(s.node.Kind == api.NodeMake && m.item(s, api.NodeStruct, s.node.Part) < 0, api.ErrName)
	return l
}

// use are the errors of what names a variable.
func (m *reading) use(s spot) sheet {
	n := s.node
	d, found := m.known(s, n.Name)
	if n.Kind == api.NodeSame {
		other, foundOther := m.known(s, n.Part)
		if !found || !foundOther {
			return sheet{api.ErrName}
		}
		what, w := m.what(d)
		whatOther, wOther := m.what(other)
		if what != "" && whatOther != "" && (what == "integer" || what != whatOther || w != wOther) {
			return sheet{api.ErrKind}
		}
		return nil
	}
	if !found {
		return sheet{api.ErrName}
	}
	what, w := m.what(d)
	if what == "" {
		return nil
	}
	isPart := n.Kind == api.NodePart || n.Kind == api.NodePutPart
	if isPart {
		w = m.field(what, n.Part)
	}
	var l sheet
	switch n.Kind {
	case api.NodeVar, api.NodeSet:
		l.add(what != "integer", api.ErrKind)
	case api.NodeFree:
		l.add(what == "integer", api.ErrKind)
	case api.NodeCell, api.NodePut:
		l.add(what != "array", api.ErrKind)
	default:
		l.add(what == "integer" || what == "array", api.ErrKind)
		l.add(w == 0, api.ErrName)
	}
	switch n.Kind {
	case api.NodeSet, api.NodePut, api.NodePutPart:
		l.add(compared(w, m.width(s.kid(len(n.Kids)-1))), api.ErrWidth)
	}
	return l
}

// found is a diagnostic with the kind of its node.
type found struct {
	kind int
	api.Diag
}

// findings are all diagnostics of a valid program, however many there are.
func findings(n api.Node) []found {
	m := readingOf(n)
	var l []found
	for _, s := range m.spots[1:] {
		if errors := m.errors(s); len(errors) > 0 {
			l = append(l, found{s.node.Kind, api.Diag{Err: errors[0], At: s.node.At}})
		}
	}
	return l
}

// model is the diagnostics of a valid program as the chapter says them.
func model(n api.Node) []api.Diag {
	var l []api.Diag
	for _, f := range findings(n) {
		l = append(l, f.Diag)
	}
	return l[:min(len(l), 20)]
}
