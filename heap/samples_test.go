package heap_test

import (
	"fmt"
	"math"
	"math/rand"
	"slices"
	"strconv"
	"strings"
	"testing"

	"formfinder/api"
	"formfinder/heap"
)

// objects are those of a text, with a bar between them: 8=5 is a cell of 8 bits with the value 5, 8 one that was never set, and a ! before them says that the object is released.
func objects(text string) []api.Obj {
	var l []api.Obj
	if text == "" {
		return nil
	}
	for _, part := range strings.Split(text, "|") {
		var o api.Obj
		part, o.Gone = strings.CutPrefix(strings.TrimSpace(part), "!")
		for _, word := range strings.Fields(part) {
			var c api.Cell
			var w, v string
			w, v, c.Set = strings.Cut(word, "=")
			c.W, _ = strconv.Atoi(w)
			c.V, _ = strconv.ParseUint(v, 10, 64)
			o.Cells = append(o.Cells, c)
		}
		l = append(l, o)
	}
	return l
}

// textOf is the text of objects; a value in a cell that was never set is written behind a question mark.
func textOf(l []api.Obj) string {
	var parts []string
	for _, o := range l {
		var words []string
		for _, c := range o.Cells {
			switch {
			case c.Set:
				words = append(words, fmt.Sprint(c.W, "=", c.V))
			case c.V != 0:
				words = append(words, fmt.Sprint(c.W, "?", c.V))
			default:
				words = append(words, fmt.Sprint(c.W))
			}
		}
		parts = append(parts, map[bool]string{true: "!"}[o.Gone]+strings.Join(words, " "))
	}
	return strconv.Quote(strings.Join(parts, "|"))
}

func sameObject(a, b api.Obj) bool { return a.Gone == b.Gone && slices.Equal(a.Cells, b.Cells) }

func sameObjects(a, b []api.Obj) bool { return slices.EqualFunc(a, b, sameObject) }

// deepCopy is a list of objects for comparisons.
func deepCopy(l []api.Obj) []api.Obj {
	var to []api.Obj
	for _, o := range l {
		to = append(to, api.Obj{Cells: append([]api.Cell(nil), o.Cells...), Gone: o.Gone})
	}
	return to
}

// call is a call of one of the functions.
type call struct {
	name   string
	l      []api.Obj
	widths []int
	obj    int
	k, v   uint64
}

func (c call) String() string {
	return fmt.Sprintf("%s of %s, widths %v, object %d, cell %d, value %d", c.name, textOf(c.l), c.widths, c.obj, c.k, c.v)
}

// result is what a call returns; number is that of a new object.
type result struct {
	objs   []api.Obj
	number int
	value  api.Bits
	fault  int
	err    api.Errno
}

func (x result) String() string {
	return fmt.Sprintf("%s, number %d, value %v, fault %d, error %d", textOf(x.objs), x.number, x.value, x.fault, x.err)
}

// do does a call.
func (c call) do() result {
	var x result
	switch c.name {
	case "New":
		x.objs, x.number, x.fault, x.err = heap.New(c.l, c.widths)
	case "Load":
		x.value, x.fault, x.err = heap.Load(c.l, c.obj, c.k)
	case "Put":
		x.objs, x.fault, x.err = heap.Put(c.l, c.obj, c.k, c.v)
	case "Free":
		x.objs, x.fault, x.err = heap.Free(c.l, c.obj)
	}
	return x
}

func sameResult(a, b result) bool {
	return sameObjects(a.objs, b.objs) && a.number == b.number && a.value == b.value && a.fault == b.fault && a.err == b.err
}

// expect fails the test unless a call returns this.
func expect(t *testing.T, c call, want result) {
	t.Helper()
	if got := c.do(); !sameResult(got, want) {
		t.Fatalf("%v\nreturns %v\nnot     %v", c, got, want)
	}
}

func failed(e api.Errno) result { return result{err: e} }

func faulty(fault int) result { return result{fault: fault} }

func pick[T any](r *rand.Rand, l []T) T { return l[r.Intn(len(l))] }

// edges are values at the edges of a width.
func edges(w int) []uint64 {
	top := uint64(1) << (w - 1)
	return []uint64{0, 1, top, top - 1, top + (top - 1)}
}

// someWidth is a valid width, often one at an edge.
func someWidth(r *rand.Rand) int {
	if r.Intn(2) == 0 {
		return pick(r, []int{1, 2, 7, 8, 63, 64})
	}
	return 1 + r.Intn(64)
}

func someWidths(r *rand.Rand) []int {
	l := make([]int, pick(r, []int{0, 1, 2, 3, 15, 16}))
	for i := range l {
		l[i] = someWidth(r)
	}
	return l
}

// someValue is any value, often one at an edge.
func someValue(r *rand.Rand) uint64 {
	if r.Intn(2) == 0 {
		return pick(r, edges(someWidth(r)))
	}
	return r.Uint64()
}

func someCell(r *rand.Rand) api.Cell {
	c := api.Cell{W: someWidth(r), Set: r.Intn(3) > 0}
	if c.Set {
		c.V = someValue(r) % (1 << (c.W - 1))
		c.V = c.V*2 + uint64(r.Intn(2))
	}
	return c
}

func someObject(r *rand.Rand) api.Obj {
	o := api.Obj{Gone: r.Intn(4) == 0}
	for range someWidths(r) {
		o.Cells = append(o.Cells, someCell(r))
	}
	return o
}

// someObjects are valid.
func someObjects(r *rand.Rand) []api.Obj {
	var l []api.Obj
	for range pick(r, []int{0, 1, 2, 3, 7, 8}) {
		l = append(l, someObject(r))
	}
	return l
}

// spoilt are objects with a change that often makes them invalid.
func spoilt(r *rand.Rand, l []api.Obj) []api.Obj {
	l = deepCopy(l)
	if len(l) == 0 || r.Intn(4) == 0 {
		return append(l, make([]api.Obj, 8-len(l)+r.Intn(2))...)
	}
	o := &l[r.Intn(len(l))]
	if len(o.Cells) == 0 || r.Intn(3) == 0 {
		for len(o.Cells) < 16+r.Intn(2) {
			o.Cells = append(o.Cells, someCell(r))
		}
		return l
	}
	c := &o.Cells[r.Intn(len(o.Cells))]
	switch r.Intn(4) {
	case 0:
		c.W = pick(r, []int{0, 65, -1, -8, 128, math.MinInt, math.MaxInt})
	case 1:
		c.W = 1 + r.Intn(63)
		c.V = 1 << c.W
	case 2:
		c.Set = false
	case 3:
		c.V = r.Uint64()
	}
	return l
}

var names = []string{"New", "Load", "Put", "Free"}

// someCall is a call with objects that are most often valid.
func someCall(r *rand.Rand) call {
	c := call{name: pick(r, names), l: someObjects(r), widths: someWidths(r), v: someValue(r)}
	if r.Intn(5) == 0 {
		c.l = spoilt(r, c.l)
	}
	if r.Intn(8) == 0 {
		c.widths = append(c.widths, pick(r, []int{0, 65, -1, math.MinInt, math.MaxInt, 1, 64}))
	}
	c.obj = r.Intn(len(c.l)+2) - 1
	c.k = uint64(r.Intn(18))
	if r.Intn(10) == 0 {
		c.obj = pick(r, []int{math.MinInt, math.MaxInt, 1 << 32, -1 << 32})
	}
	if r.Intn(10) == 0 {
		c.k = pick(r, []uint64{1 << 32, 1 << 63, math.MaxUint64, math.MaxInt64})
	}
	if c.obj >= 0 && c.obj < len(c.l) && len(c.l[c.obj].Cells) > 0 && r.Intn(2) == 0 {
		c.k = uint64(r.Intn(len(c.l[c.obj].Cells)))
	}
	return c
}
