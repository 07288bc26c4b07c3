package heap_test

import (
	"fmt"
	"math/rand"
	"slices"
	"strconv"
	"strings"
	"testing"

	"formfinder/api"
	"formfinder/heap"
)

// cellText is the bits of a cell in the model: a digit for each one, and as many question marks if the cell was never set.
type cellText string

// place is where a cell is.
type place struct {
	obj int
	k   uint64
}

// model keeps cells by their places, and how many cells objects have.
type model struct {
	cells map[place]cellText
	sizes []uint64
	gone  map[int]bool
}

// digits are those of all 64 bits of a value.
func digits(v uint64) string { return fmt.Sprintf("%064b", v) }

// modelCell is the cell in the model, or no text if it is not valid.
func modelCell(c api.Cell) cellText {
	if c.W < 1 || c.W > 64 {
		return ""
	}
	above, text := digits(c.V)[:64-c.W], digits(c.V)[64-c.W:]
	switch {
	case strings.Contains(above, "1"), !c.Set && strings.Contains(text, "1"):
		return ""
	case !c.Set:
		return cellText(strings.Repeat("?", c.W))
	}
	return cellText(text)
}

// modelOf is the model of objects, which are valid if the second result says so.
func modelOf(l []api.Obj) (model, bool) {
	m := model{cells: map[place]cellText{}, gone: map[int]bool{}}
	valid := len(l) < 9
	for i, o := range l {
		m.sizes = append(m.sizes, uint64(len(o.Cells)))
		m.gone[i] = o.Gone
		valid = valid && len(o.Cells) < 17
		for k, c := range o.Cells {
			text := modelCell(c)
			m.cells[place{i, uint64(k)}] = text
			valid = valid && text != ""
		}
	}
	return m, valid
}

func (c cellText) value() api.Bits {
	v, _ := strconv.ParseUint(string(c), 2, 64)
	return api.Bits{W: len(c), V: v}
}

// objects are those of the model.
func (m model) objects() []api.Obj {
	var l []api.Obj
	for i, n := range m.sizes {
		o := api.Obj{Gone: m.gone[i]}
		for k := range n {
			text := m.cells[place{i, k}]
			o.Cells = append(o.Cells, api.Cell{W: len(text), V: text.value().V, Set: text[0] != '?'})
		}
		l = append(l, o)
	}
	return l
}

func (m model) make(widths []int) result {
	if slices.ContainsFunc(widths, func(w int) bool { return w < 1 || w > 64 }) {
		return failed(api.ErrArg)
	}
	n := len(m.sizes)
	if len(widths) > 16 || n == 8 {
		return faulty(api.FaultSize)
	}
	m.sizes = append(m.sizes, uint64(len(widths)))
	for k, w := range widths {
		m.cells[place{n, uint64(k)}] = cellText(strings.Repeat("?", w))
	}
	return result{objs: m.objects(), number: n}
}

// run is what the model returns of a call.
func (c call) run() result {
	m, valid := modelOf(c.l)
	if !valid {
		return failed(api.ErrArg)
	}
	if c.name == "New" {
		return m.make(c.widths)
	}
	if c.obj < 0 || c.obj >= len(m.sizes) {
		return failed(api.ErrArg)
	}
	if m.gone[c.obj] {
		return faulty(api.FaultGone)
	}
	if c.name == "Free" {
		m.gone[c.obj] = true
		return result{objs: m.objects()}
	}
	at := place{c.obj, c.k}
	text, found := m.cells[at]
	if !found {
		return faulty(api.FaultOut)
	}
	if c.name == "Put" {
		m.cells[at] = cellText(digits(c.v)[64-len(text):])
		return result{objs: m.objects()}
	}
	if text[0] == '?' {
		return faulty(api.FaultRaw)
	}
	return result{value: text.value()}
}

// agree fails the test unless a call returns what the model does, and Valid says the same of its objects.
func agree(t *testing.T, c call) result {
	t.Helper()
	if _, valid := modelOf(c.l); heap.Valid(c.l) != valid {
		t.Fatalf("%s: valid %v, not %v", textOf(c.l), heap.Valid(c.l), valid)
	}
	want := c.run()
	expect(t, c, want)
	return want
}

// P9.1: random calls, of each function with each of its errors and faults.
func TestRandomCalls(t *testing.T) {
	r := rand.New(rand.NewSource(1))
	seen := map[string]int{}
	for range 40000 {
		c := someCall(r)
		x := agree(t, c)
		seen[fmt.Sprintf("%s %d %d", c.name, x.fault, x.err)]++
	}
	for _, name := range names {
		sorts := map[string][]int{"New": {0, api.FaultSize}, "Load": {0, api.FaultGone, api.FaultOut, api.FaultRaw}, "Put": {0, api.FaultGone, api.FaultOut}, "Free": {0, api.FaultGone}}[name]
		for _, fault := range sorts {
			if n := seen[fmt.Sprintf("%s %d %d", name, fault, api.OK)]; n < 500 {
				t.Errorf("%s: %d calls with the fault %d", name, n, fault)
			}
		}
		if n := seen[fmt.Sprintf("%s %d %d", name, 0, api.ErrArg)]; n < 500 {
			t.Errorf("%s: %d calls with an error", name, n)
		}
	}
}

// tinyLists are lists of up to two objects of up to two cells, of which some are not valid.
func tinyLists() [][]api.Obj {
	cells := []api.Cell{{W: 1}, {W: 1, Set: true}, {W: 1, Set: true, V: 1}, {W: 2, Set: true, V: 2}, {W: 1, V: 1}, {W: 1, Set: true, V: 2}, {}}
	objs := []api.Obj{{}}
	for i, c := range cells {
		objs = append(objs, api.Obj{Cells: []api.Cell{c}})
		for _, d := range cells[:min(i, 3)+1] {
			objs = append(objs, api.Obj{Cells: []api.Cell{c, d}}, api.Obj{Cells: []api.Cell{d, c}})
		}
	}
	for _, o := range objs {
		objs = append(objs, api.Obj{Cells: o.Cells, Gone: true})
	}
	lists := [][]api.Obj{nil}
	for _, o := range objs {
		lists = append(lists, []api.Obj{o})
		for _, other := range []api.Obj{objs[0], objs[1], objs[2], objs[len(objs)-1], {Gone: true}, {Cells: []api.Cell{{W: 9, Set: true, V: 400}}}} {
			lists = append(lists, []api.Obj{o, other}, []api.Obj{other, o})
		}
	}
	return lists
}

// P9.1: small calls.
func TestTinyCalls(t *testing.T) {
	for _, l := range tinyLists() {
		for _, widths := range [][]int{nil, {1}, {0}, {2, 1}} {
			agree(t, call{name: "New", l: l, widths: widths})
		}
		for obj := -1; obj < 3; obj++ {
			agree(t, call{name: "Free", l: l, obj: obj})
			for k := range uint64(3) {
				agree(t, call{name: "Load", l: l, obj: obj, k: k})
				for v := range uint64(5) {
					agree(t, call{name: "Put", l: l, obj: obj, k: k, v: v})
				}
			}
		}
	}
}

// P9.1: calls one after the other, each one with what the one before returned.
func TestHistories(t *testing.T) {
	for seed := range int64(300) {
		r := rand.New(rand.NewSource(seed))
		var l []api.Obj
		for range 60 {
			c := someCall(r)
			c.l = l
			if len(l) > 0 && r.Intn(2) == 0 {
				c.obj = r.Intn(len(l))
			}
			if c.name == "Free" && r.Intn(3) > 0 {
				c.name = "Load"
			}
			if x := agree(t, c); c.name != "Load" && x.fault == 0 && x.err == api.OK {
				l = c.do().objs
			}
		}
	}
}
