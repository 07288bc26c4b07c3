package heap_test

import (
	"math"
	"math/rand"
	"testing"

	"formfinder/api"
	"formfinder/bits"
	"formfinder/heap"
)

// laws does calls without errors and faults: a law is about arguments for which there are none.
type laws struct{ *testing.T }

func (t laws) do(c call) result {
	t.Helper()
	x := c.do()
	if x.err != api.OK || x.fault != 0 {
		t.Fatalf("%v\nreturns %v", c, x)
	}
	return x
}

func (t laws) put(l []api.Obj, obj int, k, v uint64) []api.Obj {
	t.Helper()
	return t.do(call{name: "Put", l: l, obj: obj, k: k, v: v}).objs
}

func (t laws) make(l []api.Obj, widths []int) ([]api.Obj, int) {
	t.Helper()
	x := t.do(call{name: "New", l: l, widths: widths})
	return x.objs, x.number
}

func (t laws) free(l []api.Obj, obj int) []api.Obj {
	t.Helper()
	return t.do(call{name: "Free", l: l, obj: obj}).objs
}

// load is what Load returns, a fault included.
func load(l []api.Obj, obj int, k uint64) result {
	return call{name: "Load", l: l, obj: obj, k: k}.do()
}

// samples are random objects, which are valid.
func samples(seed int64, n int) [][]api.Obj {
	r := rand.New(rand.NewSource(seed))
	lists := [][]api.Obj{full(), {}, make([]api.Obj, 8)}
	for range n {
		lists = append(lists, someObjects(r))
	}
	return lists
}

// cells are the places of the cells of objects that are not released.
func cells(l []api.Obj) []place {
	var to []place
	for i, o := range l {
		for k := range o.Cells {
			if !o.Gone {
				to = append(to, place{i, uint64(k)})
			}
		}
	}
	return to
}

// stay fails the test unless objects are as they were, but for what is at one place.
func (t laws) stay(before, after []api.Obj, but place) {
	t.Helper()
	before, after = deepCopy(before), deepCopy(after)
	before[but.obj].Cells[but.k] = api.Cell{}
	after[but.obj].Cells[but.k] = api.Cell{}
	if !sameObjects(before, after) {
		t.Fatalf("%s\nbecomes %s", textOf(before), textOf(after))
	}
}

// P9.2
func TestReading(t *testing.T) {
	r := rand.New(rand.NewSource(20))
	for _, l := range samples(21, 150) {
		for _, at := range cells(l) {
			w := l[at.obj].Cells[at.k].W
			now := l
			for range 3 {
				v, before := someValue(r), now
				now = laws{t}.put(now, at.obj, at.k, v)
				laws{t}.stay(before, now, at)
				// the lowest bits: those that are left when the ones above are shifted out
				want := result{value: api.Bits{W: w, V: v << (64 - w) >> (64 - w)}}
				if x := load(now, at.obj, at.k); !sameResult(x, want) {
					t.Fatalf("after %d was put at %v of %s: %v", v, at, textOf(before), x)
				}
			}
		}
	}
}

// P9.2: a value stays while other cells are put, objects are made, and others are released.
func TestKept(t *testing.T) {
	r := rand.New(rand.NewSource(25))
	many := 0
	for _, l := range samples(26, 600) {
		places := cells(l)
		if len(places) < 2 {
			continue
		}
		at := pick(r, places)
		v := someValue(r)
		l = laws{t}.put(l, at.obj, at.k, v)
		want := load(l, at.obj, at.k)
		for range 20 {
			switch other := pick(r, places); {
			case r.Intn(8) == 0 && len(l) < 8:
				l, _ = laws{t}.make(l, someWidths(r))
			case r.Intn(8) == 0 && other.obj != at.obj && !l[other.obj].Gone:
				l = laws{t}.free(l, other.obj)
			case other != at && !l[other.obj].Gone:
				l = laws{t}.put(l, other.obj, other.k, someValue(r))
			}
			if x := load(l, at.obj, at.k); !sameResult(x, want) {
				t.Fatalf("%s at %v: %v, not %v", textOf(l), at, x, want)
			}
		}
		many++
	}
	if many < 300 {
		t.Error("few objects with cells:", many)
	}
}

// P9.3
func TestFresh(t *testing.T) {
	r := rand.New(rand.NewSource(30))
	for _, l := range samples(31, 600) {
		if len(l) == 8 {
			continue
		}
		widths := someWidths(r)
		after, n := laws{t}.make(l, widths)
		if n != len(l) || len(after) != n+1 || !sameObjects(after[:n], l) || after[n].Gone {
			t.Fatalf("%s and an object of the widths %v: %s, %d", textOf(l), widths, textOf(after), n)
		}
		for k := range uint64(18) {
			want := faulty(api.FaultOut)
			if k < uint64(len(widths)) {
				want = faulty(api.FaultRaw)
			}
			if x := load(after, n, k); !sameResult(x, want) {
				t.Fatalf("%s at %d, %d: %v, not %v", textOf(after), n, k, x, want)
			}
		}
		for k, w := range widths {
			now := laws{t}.put(after, n, uint64(k), math.MaxUint64)
			want := result{value: api.Bits{W: w, V: math.MaxUint64 >> (64 - w)}}
			if x := load(now, n, uint64(k)); !sameResult(x, want) {
				t.Fatalf("%s at %d, %d: %v, not %v", textOf(now), n, k, x, want)
			}
		}
	}
}

// isGone fails the test unless all that can be done with an object is FaultGone.
func isGone(t *testing.T, l []api.Obj, obj int) {
	t.Helper()
	for _, k := range []uint64{0, 1, 2, 15, 16, 17, math.MaxUint64} {
		expect(t, call{name: "Load", l: l, obj: obj, k: k}, faulty(api.FaultGone))
		expect(t, call{name: "Put", l: l, obj: obj, k: k, v: k}, faulty(api.FaultGone))
	}
	expect(t, call{name: "Free", l: l, obj: obj}, faulty(api.FaultGone))
}

// P9.4
func TestGone(t *testing.T) {
	r := rand.New(rand.NewSource(40))
	for _, l := range samples(41, 300) {
		for obj := range l {
			if l[obj].Gone {
				isGone(t, l, obj)
				continue
			}
			after := laws{t}.free(l, obj)
			back := deepCopy(after)
			back[obj].Gone = false
			if !after[obj].Gone || !sameObjects(back, l) {
				t.Fatalf("%s without %d: %s", textOf(l), obj, textOf(after))
			}
			isGone(t, after, obj)
			// whatever else is done
			for _, at := range cells(after) {
				if r.Intn(5) == 0 {
					after = laws{t}.put(after, at.obj, at.k, someValue(r))
				}
			}
			if len(after) < 8 {
				after, _ = laws{t}.make(after, someWidths(r))
			}
			isGone(t, after, obj)
		}
	}
}

// P9.5
func TestOut(t *testing.T) {
	r := rand.New(rand.NewSource(50))
	for _, l := range samples(51, 200) {
		for obj, o := range l {
			for _, k := range []uint64{0, 1, 2, 3, 14, 15, 16, 17, 1 << 31, 1 << 32, 1<<32 + 1, 1 << 63, 1<<63 + 1, math.MaxInt64, math.MaxUint64 - 1, math.MaxUint64} {
				c := call{name: "Put", l: l, obj: obj, k: k, v: someValue(r)}
				switch has := k < uint64(len(o.Cells)); {
				case o.Gone:
				case has:
					laws{t}.do(c)
				default:
					expect(t, c, faulty(api.FaultOut))
				}
			}
		}
	}
}

// P9.6
func TestExchange(t *testing.T) {
	r := rand.New(rand.NewSource(60))
	within, between := 0, 0
	for _, l := range samples(61, 1000) {
		places := cells(l)
		for range min(len(places), 20) {
			a, b, v, w := pick(r, places), pick(r, places), someValue(r), someValue(r)
			if a == b {
				continue
			}
			if a.obj == b.obj {
				within++
			} else {
				between++
			}
			one := laws{t}.put(laws{t}.put(l, a.obj, a.k, v), b.obj, b.k, w)
			other := laws{t}.put(laws{t}.put(l, b.obj, b.k, w), a.obj, a.k, v)
			if !sameObjects(one, other) {
				t.Fatalf("%s: %d at %v and %d at %v: %s or %s", textOf(l), v, a, w, b, textOf(one), textOf(other))
			}
		}
	}
	if within < 500 || between < 500 {
		t.Error("few of a sort:", within, between)
	}
}

// spare are objects in lists that have room for more, in which there are marks, as the second result says.
func spare(l []api.Obj) ([]api.Obj, func() bool) {
	mark := api.Cell{W: 77, Set: true, V: 77}
	all := append(deepCopy(l), api.Obj{Gone: true, Cells: []api.Cell{mark}}, api.Obj{})
	for i := range all {
		all[i].Cells = append(all[i].Cells, mark, mark)
		all[i].Cells = all[i].Cells[:len(all[i].Cells)-2]
	}
	l = all[:len(l)]
	return l, func() bool {
		if last := all[len(l)]; !last.Gone || len(last.Cells) != 1 || last.Cells[0] != mark {
			return false
		}
		for _, o := range all {
			n := len(o.Cells)
			if o.Cells[:n+2][n] != mark || o.Cells[:n+2][n+1] != mark {
				return false
			}
		}
		return true
	}
}

// scribble writes into all memory of objects.
func scribble(l []api.Obj) {
	for i := range l {
		cells := l[i].Cells
		for k := range cells[:cap(cells)] {
			cells[:cap(cells)][k] = api.Cell{W: 99, V: 99}
		}
	}
	for i := range l[:cap(l)] {
		l[:cap(l)][i] = api.Obj{Gone: true}
	}
}

// P9.7, P1: results are valid, and neither change arguments nor share memory with them.
func TestUnchanged(t *testing.T) {
	r := rand.New(rand.NewSource(70))
	many := map[string]int{}
	for range 20000 {
		c := someCall(r)
		before := deepCopy(c.l)
		widths := append([]int(nil), c.widths...)
		var marked func() bool
		c.l, marked = spare(c.l)
		x := c.do()
		if !sameObjects(c.l, before) || !marked() || len(widths) != len(c.widths) {
			t.Fatalf("%v\nchanges %s", c, textOf(before))
		}
		for i, w := range widths {
			if c.widths[i] != w {
				t.Fatalf("%v changes the widths %v", c, widths)
			}
		}
		if x.err != api.OK || x.fault != 0 {
			continue
		}
		if !heap.Valid(x.objs) || c.name == "Load" && !bits.Valid(x.value) {
			t.Fatalf("%v\nreturns %v", c, x)
		}
		if c.name != "Load" {
			after := deepCopy(x.objs)
			scribble(c.l)
			if !sameObjects(x.objs, after) {
				t.Fatalf("%v\nreturns %v, which changes with the argument", c, x)
			}
			c.l, marked = spare(before)
			x = c.do()
			scribble(x.objs)
			if !sameObjects(c.l, before) || !marked() {
				t.Fatalf("%v\nreturns what changes the argument", c)
			}
			many[c.name]++
		}
	}
	for _, name := range []string{"New", "Put", "Free"} {
		if many[name] < 500 {
			t.Errorf("%s: only %d results", name, many[name])
		}
	}
}

// P9.7: no two objects of a result share memory.
func TestApart(t *testing.T) {
	for _, l := range samples(75, 200) {
		var results [][]api.Obj
		for obj, o := range l {
			if o.Gone {
				continue
			}
			results = append(results, laws{t}.free(l, obj))
			if len(o.Cells) > 0 {
				results = append(results, laws{t}.put(l, obj, 0, 1))
			}
		}
		if len(l) < 8 {
			x, _ := laws{t}.make(l, []int{8, 9})
			results = append(results, x)
		}
		for _, x := range results {
			for i := range x {
				want := deepCopy(x)
				want[i].Cells = nil
				cells := x[i].Cells
				for k := range cells[:cap(cells)] {
					cells[:cap(cells)][k] = api.Cell{W: 99, V: 99}
				}
				x[i].Cells = nil
				if !sameObjects(x, want) {
					t.Fatalf("the object %d of %s shares memory with another one", i, textOf(want))
				}
			}
		}
	}
}

// P9.7: the same memory in several objects of an argument is not shared by those of a result.
func TestSharedArgument(t *testing.T) {
	cells := []api.Cell{{W: 8}, {W: 8}}
	l := []api.Obj{{Cells: cells}, {Cells: cells}, {Cells: cells[:1]}}
	expect(t, call{name: "Put", l: l, obj: 1, k: 0, v: 5}, result{objs: objects("8 8|8=5 8|8")})
	expect(t, call{name: "Put", l: l, obj: 2, k: 0, v: 5}, result{objs: objects("8 8|8 8|8=5")})
	if !sameObjects(l, objects("8 8|8 8|8")) {
		t.Error(textOf(l))
	}
}

// P9.8
func TestFull(t *testing.T) {
	for seed := range int64(200) {
		r := rand.New(rand.NewSource(80 + seed))
		var l []api.Obj
		for i := range 8 {
			var n int
			l, n = laws{t}.make(l, someWidths(r))
			if n != i || len(l) != i+1 {
				t.Fatalf("the object %d has the number %d: %s", i, n, textOf(l))
			}
			for obj := range l {
				if !l[obj].Gone && r.Intn(4) == 0 {
					l = laws{t}.free(l, obj)
				}
			}
			for _, at := range cells(l) {
				if r.Intn(4) == 0 {
					l = laws{t}.put(l, at.obj, at.k, someValue(r))
				}
			}
		}
		expect(t, call{name: "New", l: l, widths: someWidths(r)}, faulty(api.FaultSize))
		for obj := range l {
			if !l[obj].Gone {
				l = laws{t}.free(l, obj)
			}
			expect(t, call{name: "New", l: l, widths: []int{1}}, faulty(api.FaultSize))
		}
	}
}

// P1: with an error or a fault there is nothing else, and never both; results are the same again.
func TestNothingElse(t *testing.T) {
	r := rand.New(rand.NewSource(90))
	for range 20000 {
		c := someCall(r)
		x := c.do()
		if x.err != api.OK && x.fault != 0 {
			t.Fatalf("%v\nreturns %v", c, x)
		}
		if x.err != api.OK || x.fault != 0 {
			if len(x.objs) > 0 || x.number != 0 || x.value != (api.Bits{}) {
				t.Fatalf("%v\nreturns %v", c, x)
			}
		}
		expect(t, c, x)
	}
}
