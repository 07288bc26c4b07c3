package heap_test

import (
	"math"
	"slices"
	"testing"

	"formfinder/api"
	"formfinder/heap"
)

// P9.1: the examples of the chapter.
func TestExamples(t *testing.T) {
	l, n, fault, e := heap.New(nil, []int{8, 1})
	if !sameObjects(l, objects("8 1")) || n != 0 || fault != 0 || e != api.OK {
		t.Fatal(textOf(l), n, fault, e)
	}
	expect(t, call{name: "Load", l: l, k: 0}, faulty(api.FaultRaw))
	expect(t, call{name: "Load", l: l, k: 2}, faulty(api.FaultOut))
	l, fault, e = heap.Put(l, 0, 0, 511)
	if !sameObjects(l, objects("8=255 1")) || fault != 0 || e != api.OK {
		t.Fatal(textOf(l), fault, e)
	}
	expect(t, call{name: "Load", l: l, k: 0}, result{value: api.Bits{W: 8, V: 255}})
	l, fault, e = heap.Free(l, 0)
	if !sameObjects(l, objects("!8=255 1")) || fault != 0 || e != api.OK {
		t.Fatal(textOf(l), fault, e)
	}
	for k := range uint64(3) {
		expect(t, call{name: "Load", l: l, k: k}, faulty(api.FaultGone))
		expect(t, call{name: "Put", l: l, k: k, v: 1}, faulty(api.FaultGone))
	}
	expect(t, call{name: "Free", l: l}, faulty(api.FaultGone))
}

// full are 8 objects of 16 cells, whose values are as great as they can be.
func full() []api.Obj {
	var l []api.Obj
	for i := range 8 {
		o := api.Obj{Gone: i%3 == 1}
		for k := range 16 {
			w := 1 + (i*16+k)%64
			o.Cells = append(o.Cells, api.Cell{W: w, Set: true, V: math.MaxUint64 >> (64 - w)})
		}
		l = append(l, o)
	}
	return l
}

// wrongCells cannot be in objects.
func wrongCells() []api.Cell {
	l := []api.Cell{{}, {Set: true}, {V: 1}, {Set: true, V: 1}}
	for _, w := range []int{0, -1, -8, -64, 65, 66, 128, math.MinInt, math.MinInt + 1, math.MaxInt} {
		l = append(l, api.Cell{W: w}, api.Cell{W: w, Set: true}, api.Cell{W: w, Set: true, V: 1}, api.Cell{W: w, Set: true, V: math.MaxUint64})
	}
	for w := 1; w <= 64; w++ {
		for _, v := range edges(w)[1:] {
			if v > 0 {
				l = append(l, api.Cell{W: w, V: v})
			}
		}
		if w < 64 {
			for _, v := range []uint64{1 << w, 1<<w + 1, math.MaxUint64, 1 << 63} {
				l = append(l, api.Cell{W: w, Set: true, V: v}, api.Cell{W: w, V: v})
			}
		}
	}
	return l
}

// wrongLists are not valid.
func wrongLists() [][]api.Obj {
	lists := [][]api.Obj{make([]api.Obj, 9), make([]api.Obj, 100), slices.Repeat([]api.Obj{{Gone: true}}, 9)}
	for _, n := range []int{17, 18, 300} {
		many := slices.Repeat([]api.Cell{{W: 1}}, n)
		lists = append(lists, []api.Obj{{Cells: many}}, []api.Obj{{}, {Cells: many, Gone: true}, {}}, append(full()[:7], api.Obj{Cells: many}))
	}
	for i, c := range wrongCells() {
		lists = append(lists, []api.Obj{{Cells: []api.Cell{c}}}, []api.Obj{{}, {Cells: []api.Cell{{W: 8}, c}, Gone: true}})
		l := full()
		l[i%8].Cells[i/8%16] = c
		lists = append(lists, l)
	}
	return lists
}

// P9.1, I1
func TestValid(t *testing.T) {
	good := [][]api.Obj{nil, {}, {{}}, {{Gone: true}}, {{Cells: []api.Cell{}}}, make([]api.Obj, 8), full(), full()[:7], objects("1|2|3|4|5|6|7|64"), objects("!1=1|!2=3")}
	for w := 1; w <= 64; w++ {
		good = append(good, []api.Obj{{Cells: []api.Cell{{W: w}}}})
		for _, v := range edges(w) {
			good = append(good, []api.Obj{{Cells: []api.Cell{{W: w, Set: true, V: v}}}})
		}
	}
	for _, l := range good {
		if !heap.Valid(l) {
			t.Errorf("%s is valid", textOf(l))
		}
	}
	for _, l := range wrongLists() {
		if heap.Valid(l) {
			t.Errorf("%s is not valid", textOf(l))
		}
	}
}

// P9.1, P1: objects that are not valid are refused whatever else there is, and before faults.
func TestInvalidObjects(t *testing.T) {
	for _, l := range wrongLists() {
		for _, widths := range [][]int{nil, {8}, {0}, slices.Repeat([]int{1}, 17)} {
			expect(t, call{name: "New", l: l, widths: widths}, failed(api.ErrArg))
		}
		for _, obj := range []int{math.MinInt, -1, 0, 1, 2, 7, 8, 9, len(l) - 1, len(l), math.MaxInt} {
			for _, k := range []uint64{0, 1, 15, 16, 17, math.MaxUint64} {
				expect(t, call{name: "Load", l: l, obj: obj, k: k}, failed(api.ErrArg))
				expect(t, call{name: "Put", l: l, obj: obj, k: k, v: 5}, failed(api.ErrArg))
			}
			expect(t, call{name: "Free", l: l, obj: obj}, failed(api.ErrArg))
		}
	}
}

// P9.1, P1: there is no such object, which is said before faults.
func TestNoSuchObject(t *testing.T) {
	for _, l := range [][]api.Obj{nil, objects("8=5"), objects("!8"), objects("8=5|!8=5"), full()} {
		for _, obj := range []int{len(l), len(l) + 1, 8, 9, 1 << 32, math.MaxInt, -1, -2, -len(l) - 1, -1 << 32, math.MinInt} {
			for _, k := range []uint64{0, 1, math.MaxUint64} {
				expect(t, call{name: "Load", l: l, obj: obj, k: k}, failed(api.ErrArg))
				expect(t, call{name: "Put", l: l, obj: obj, k: k, v: 5}, failed(api.ErrArg))
			}
			expect(t, call{name: "Free", l: l, obj: obj}, failed(api.ErrArg))
		}
	}
}

// P9.1, I2
func TestNew(t *testing.T) {
	allOnes := slices.Repeat([]int{1}, 16)
	for _, x := range []struct {
		before string
		widths []int
		after  string
		number int
	}{
		{"", []int{1}, "1", 0},
		{"", []int{64}, "64", 0},
		{"", []int{8, 1}, "8 1", 0},
		{"", []int{8, 8}, "8 8", 0},
		{"", allOnes, "1 1 1 1 1 1 1 1 1 1 1 1 1 1 1 1", 0},
		{"8=5", []int{3}, "8=5|3", 1},
		{"!8=5", []int{3}, "!8=5|3", 1},
		{"!8=5|7", []int{3, 2, 1}, "!8=5|7|3 2 1", 2},
		{"1|1|1|1|1|1", []int{2}, "1|1|1|1|1|1|2", 6},
		{"1|1|1|1|1|1|1", []int{2}, "1|1|1|1|1|1|1|2", 7},
		{"1|1|1|!1|1|1|1", []int{64, 63}, "1|1|1|!1|1|1|1|64 63", 7},
	} {
		expect(t, call{name: "New", l: objects(x.before), widths: x.widths}, result{objs: objects(x.after), number: x.number})
	}
	// an object without cells is one, too
	expect(t, call{name: "New"}, result{objs: []api.Obj{{}}, number: 0})
	expect(t, call{name: "New", l: objects("8")}, result{objs: append(objects("8"), api.Obj{}), number: 1})
}

// P9.1, I2: too many cells, and too many objects, also if they are released.
func TestNewSize(t *testing.T) {
	few, many := []int{1}, slices.Repeat([]int{64}, 17)
	gone := objects("!1|!1|!1|!1|!1|!1|!1|!1")
	for _, x := range []call{
		{l: nil, widths: many},
		{l: nil, widths: slices.Repeat([]int{1}, 1000)},
		{l: objects("1|1"), widths: many},
		{l: full(), widths: few},
		{l: full(), widths: nil},
		{l: full(), widths: many},
		{l: gone, widths: few},
		{l: gone, widths: nil},
	} {
		x.name = "New"
		expect(t, x, faulty(api.FaultSize))
	}
}

// P9.1, I2, P1: widths that are not valid, which is said before faults.
func TestNewErrors(t *testing.T) {
	for _, w := range []int{0, -1, -8, 65, 66, 128, math.MinInt, math.MaxInt, 1<<32 + 8} {
		for _, l := range [][]api.Obj{nil, objects("8=5"), full()} {
			for _, widths := range [][]int{{w}, {w, 8}, {8, w}, {8, w, 8}, append(slices.Repeat([]int{8}, 16), w), append([]int{w}, slices.Repeat([]int{8}, 20)...)} {
				expect(t, call{name: "New", l: l, widths: widths}, failed(api.ErrArg))
			}
		}
	}
}

// P9.1, I3
func TestLoad(t *testing.T) {
	value := func(w int, v uint64) result { return result{value: api.Bits{W: w, V: v}} }
	for _, x := range []struct {
		text string
		obj  int
		k    uint64
		want result
	}{
		{"8=5", 0, 0, value(8, 5)},
		{"8=0", 0, 0, value(8, 0)},
		{"1=1", 0, 0, value(1, 1)},
		{"64=18446744073709551615", 0, 0, value(64, math.MaxUint64)},
		{"8=5 9=6 10=7", 0, 0, value(8, 5)},
		{"8=5 9=6 10=7", 0, 1, value(9, 6)},
		{"8=5 9=6 10=7", 0, 2, value(10, 7)},
		{"8=5|9=6|10=7", 1, 0, value(9, 6)},
		{"!8=5|9=6|!10=7", 1, 0, value(9, 6)},
		{"8 9=6", 0, 1, value(9, 6)},
		// never set
		{"8", 0, 0, faulty(api.FaultRaw)},
		{"8=5 9 10=7", 0, 1, faulty(api.FaultRaw)},
		{"8=5|9", 1, 0, faulty(api.FaultRaw)},
		// no such cell
		{"8=5", 0, 1, faulty(api.FaultOut)},
		{"8=5 9", 0, 2, faulty(api.FaultOut)},
		{"8=5|9=6 9=6", 0, 1, faulty(api.FaultOut)},
		{"8=5", 0, 1 << 32, faulty(api.FaultOut)},
		{"8=5", 0, 1 << 63, faulty(api.FaultOut)},
		{"8=5", 0, math.MaxInt64, faulty(api.FaultOut)},
		{"8=5", 0, math.MaxUint64, faulty(api.FaultOut)},
		// released
		{"!8=5", 0, 0, faulty(api.FaultGone)},
		{"!8", 0, 0, faulty(api.FaultGone)},
		{"!8=5", 0, 1, faulty(api.FaultGone)},
		{"!", 0, 0, faulty(api.FaultGone)},
		{"9=6|!8", 1, math.MaxUint64, faulty(api.FaultGone)},
	} {
		expect(t, call{name: "Load", l: objects(x.text), obj: x.obj, k: x.k}, x.want)
	}
	expect(t, call{name: "Load", l: make([]api.Obj, 1)}, faulty(api.FaultOut))
}

// P9.1, I4
func TestPut(t *testing.T) {
	for _, x := range []struct {
		text string
		obj  int
		k, v uint64
		want string
	}{
		{"8", 0, 0, 5, "8=5"},
		{"8", 0, 0, 0, "8=0"},
		{"8=5", 0, 0, 0, "8=0"},
		{"8=5", 0, 0, 6, "8=6"},
		{"8", 0, 0, 255, "8=255"},
		{"8", 0, 0, 256, "8=0"},
		{"8", 0, 0, 511, "8=255"},
		{"1", 0, 0, 2, "1=0"},
		{"1", 0, 0, 3, "1=1"},
		{"63", 0, 0, math.MaxUint64, "63=9223372036854775807"},
		{"64", 0, 0, math.MaxUint64, "64=18446744073709551615"},
		{"8 8 8", 0, 0, 5, "8=5 8 8"},
		{"8 8 8", 0, 1, 5, "8 8=5 8"},
		{"8 8 8", 0, 2, 5, "8 8 8=5"},
		{"8=1 4=2 2=3", 0, 1, 100, "8=1 4=4 2=3"},
		{"8=1|8=1|8=1", 0, 0, 2, "8=2|8=1|8=1"},
		{"8=1|8=1|8=1", 1, 0, 2, "8=1|8=2|8=1"},
		{"8=1|8=1|8=1", 2, 0, 2, "8=1|8=1|8=2"},
		{"!8=1|8=1|!8", 1, 0, 2, "!8=1|8=2|!8"},
	} {
		expect(t, call{name: "Put", l: objects(x.text), obj: x.obj, k: x.k, v: x.v}, result{objs: objects(x.want)})
	}
	for _, x := range []struct {
		text  string
		obj   int
		k     uint64
		fault int
	}{
		{"8", 0, 1, api.FaultOut},
		{"8|8 8", 0, 1, api.FaultOut},
		{"8", 0, 1 << 32, api.FaultOut},
		{"8", 0, 1 << 63, api.FaultOut},
		{"8", 0, math.MaxUint64, api.FaultOut},
		{"!8", 0, 0, api.FaultGone},
		{"!8", 0, 1, api.FaultGone},
		{"8|!8", 1, math.MaxUint64, api.FaultGone},
	} {
		expect(t, call{name: "Put", l: objects(x.text), obj: x.obj, k: x.k, v: 7}, faulty(x.fault))
	}
	expect(t, call{name: "Put", l: make([]api.Obj, 1)}, faulty(api.FaultOut))
}

// P9.1, I5
func TestFree(t *testing.T) {
	for _, x := range []struct {
		text string
		obj  int
		want string
	}{
		{"8", 0, "!8"},
		{"8=5 9 10=3", 0, "!8=5 9 10=3"},
		{"8=1|8=2|8=3", 0, "!8=1|8=2|8=3"},
		{"8=1|8=2|8=3", 1, "8=1|!8=2|8=3"},
		{"8=1|8=2|8=3", 2, "8=1|8=2|!8=3"},
		{"!8=1|8=2|!8=3", 1, "!8=1|!8=2|!8=3"},
	} {
		expect(t, call{name: "Free", l: objects(x.text), obj: x.obj}, result{objs: objects(x.want)})
	}
	expect(t, call{name: "Free", l: make([]api.Obj, 1)}, result{objs: objects("!")})
	expect(t, call{name: "Free", l: objects("!8")}, faulty(api.FaultGone))
	expect(t, call{name: "Free", l: objects("!")}, faulty(api.FaultGone))
	expect(t, call{name: "Free", l: objects("8|!8|8"), obj: 1}, faulty(api.FaultGone))
}
