package ssa_test

import (
	"math"
	"math/rand"
	"slices"
	"testing"

	"formfinder/api"
	"formfinder/ssa"
)

// valuesOf are the values that are used by an instruction, or by the end of a block.
func valuesOf(c api.Code, block, pos int) []int {
	if pos < c.Blocks[block].Until {
		n := c.Insts[pos]
		return []int{n.A, n.B, n.C}[:takes(n.Op)]
	}
	var l []int
	e := c.Blocks[block].End
	if e.Kind == api.EndBranch {
		l = append(l, e.A)
	}
	return slices.Concat(l, e.ToArgs, e.ElseArgs)
}

// follow goes a random way from the block 0, and reports whether each value that is used on it was computed before.
func follow(r *rand.Rand, c api.Code, steps int) bool {
	computed := make([]bool, len(c.Insts))
	for i := 0; steps > 0; steps-- {
		b := c.Blocks[i]
		for pos := b.From; pos <= b.Until; pos++ {
			if slices.ContainsFunc(valuesOf(c, i, pos), func(v int) bool { return !computed[v] }) {
				return false
			}
			if pos < b.Until {
				computed[pos] = true
			}
		}
		l := successors(c, i)
		if len(l) == 0 {
			break
		}
		i = pick(r, l)
	}
	return true
}

// shortestTo is the blocks of a way from the block 0 to a block that does not pass through another one, if there is one.
func shortestTo(c api.Code, to, without int) ([]int, bool) {
	if without == 0 {
		return nil, false
	}
	seen := map[int]bool{0: true}
	for work := [][]int{{0}}; len(work) > 0; work = work[1:] {
		way := work[0]
		last := way[len(way)-1]
		if last == to {
			return way, true
		}
		for _, s := range successors(c, last) {
			if s != without && !seen[s] {
				seen[s] = true
				work = append(work, append(slices.Clone(way), s))
			}
		}
	}
	return nil, false
}

// isMissed says that there is a way to a use of a value on which it was not computed.
func isMissed(c api.Code, p usePlace) bool {
	home := slices.IndexFunc(c.Blocks, func(b api.Block) bool { return b.From <= *p.value && *p.value < b.Until })
	if home == p.block {
		return *p.value >= p.pos
	}
	_, found := shortestTo(c, p.block, home)
	return found
}

// P6.2
func TestDefined(t *testing.T) {
	r := rand.New(rand.NewSource(10))
	count := map[bool]int{}
	for i, c := range codes(11, 600) {
		good(t, i, c)
		for range 10 {
			if !follow(r, c, 60) {
				t.Fatalf("%+v\na value is used that was not computed", c)
			}
		}
		// another value of the same sort: it may be used if it is computed on each way
		for j := range usePlaces(&c) {
			d := clone(c)
			p := usePlaces(&d)[j]
			var l []int
			for v, n := range d.Insts {
				old := d.Insts[*p.value]
				if n.W == old.W && n.P == old.P && (n.Op == api.OpConst) == (old.Op == api.OpConst) && n.N == old.N {
					l = append(l, v)
				}
			}
			*p.value = pick(r, l)
			want := !isMissed(d, p)
			if got := ssa.Valid(d); got != want {
				t.Fatalf("%+v\nis valid: %v; want %v", d, got, want)
			}
			count[want]++
		}
	}
	if count[true] < 1000 || count[false] < 1000 {
		t.Error("few values of a sort:", count)
	}
}

// P6.3
func TestOrder(t *testing.T) {
	for _, c := range append(codes(12, 600), large(13, 20)...) {
		l, e := ssa.Order(c)
		if e != api.OK || len(l) != len(c.Blocks) || l[0] != 0 {
			t.Fatalf("%+v\n%v, error %d", c, l, e)
		}
		place := make([]int, len(l))
		for i := range place {
			place[i] = slices.Index(l, i)
		}
		doms := dominatorsOf(c)
		for i := 1; i < len(l); i++ {
			behind := func(j int) bool { return place[j] < place[i] }
			if place[i] < 0 || !slices.ContainsFunc(preds(c)[i], behind) {
				t.Fatalf("%+v\n%v: the block %d", c, l, i)
			}
			for _, d := range doms[i] {
				if d != i && !behind(d) {
					t.Fatalf("%+v\n%v: the block %d, which %d dominates", c, l, i, d)
				}
			}
		}
	}
}

// large are random codes with many blocks.
func large(seed int64, many int) []api.Code {
	r := rand.New(rand.NewSource(seed))
	var l []api.Code
	for range many {
		l = append(l, randomCode(r, 20+r.Intn(80), 3))
	}
	return append(l, randomCode(r, 400, 2))
}

// P6.1: large code.
func TestLarge(t *testing.T) {
	r := rand.New(rand.NewSource(14))
	for i, c := range large(15, 30) {
		good(t, i, c)
		l := changes(c)
		for range 20 {
			expect(t, changed(c, pick(r, l)))
		}
		places := usePlaces(&c)
		for range 20 {
			*pick(r, places).value = r.Intn(len(c.Insts))
			expect(t, c)
		}
	}
}

// P6.4
func TestPredecessors(t *testing.T) {
	for _, c := range append(codes(16, 600), large(17, 5)...) {
		l, e := ssa.Preds(c)
		if e != api.OK || len(l) != len(c.Blocks) {
			t.Fatalf("%+v\n%v, error %d", c, l, e)
		}
		for to := range c.Blocks {
			if !slices.IsSorted(l[to]) || len(slices.Compact(slices.Clone(l[to]))) != len(l[to]) {
				t.Fatalf("%+v\n%v", c, l)
			}
			for from, b := range c.Blocks {
				leads := b.End.Kind == api.EndJump && b.End.To == to || b.End.Kind == api.EndBranch && (b.End.To == to || b.End.Else == to)
				if slices.Contains(l[to], from) != leads {
					t.Fatalf("%+v\n%v: from %d to %d", c, l, from, to)
				}
			}
		}
	}
}

// P6.5
func TestAllUses(t *testing.T) {
	for _, c := range append(codes(18, 600), large(19, 5)...) {
		l, e := ssa.Uses(c)
		if e != api.OK || len(l) != len(c.Insts) {
			t.Fatalf("%+v\n%v, error %d", c, l, e)
		}
		sum, want := 0, 0
		for v, n := range l {
			sum += n
			if n < 0 || n > 0 && c.Insts[v].W == 0 && c.Insts[v].P == 0 {
				t.Fatalf("%+v\n%v: the value %d", c, l, v)
			}
		}
		for _, n := range c.Insts {
			want += takes(n.Op)
		}
		for _, b := range c.Blocks {
			if b.End.Kind == api.EndBranch {
				want++
			}
			want += len(b.End.ToArgs) + len(b.End.ElseArgs)
		}
		if sum != want {
			t.Fatalf("%+v\n%v: %d uses; want %d", c, l, sum, want)
		}
	}
}

// damages are changes of code of which none leaves it valid: widths, kinds, arguments and blocks.
func damages(c api.Code) []func(c *api.Code) {
	var l []func(c *api.Code)
	for i, n := range c.Insts {
		wrong := []int{-1, 65, math.MinInt, math.MaxInt}
		if n.W > 0 {
			wrong = append(wrong, 0)
		} else {
			wrong = append(wrong, 1, 8, 64)
		}
		if !slices.Contains([]int{api.OpConst, api.OpParam, api.OpZext, api.OpSext, api.OpPart}, n.Op) {
			wrong = append(wrong, n.W-1, n.W+1)
		}
		for _, w := range wrong {
			l = append(l, func(c *api.Code) { c.Insts[i].W = w })
		}
		for _, p := range []int{-1, 1, 8, 64, 65, 66, 64 + len(c.Structs), 65 + len(c.Structs), math.MinInt, math.MaxInt} {
			if p != n.P && (n.Op != api.OpParam || p < 1 || p > 64+len(c.Structs) || n.W > 0) {
				l = append(l, func(c *api.Code) { c.Insts[i].P = p })
			}
		}
		// The values of this block from this one on, and what there is not; what is no value, and for an integer a pointer.
		for j := range takes(n.Op) {
			for _, v := range []int{i, -1, len(c.Insts), math.MinInt, math.MaxInt, blockUntil(c, i) - 1} {
				l = append(l, func(c *api.Code) { *operands(&c.Insts[i])[j] = v })
			}
			for v, other := range c.Insts {
				old := c.Insts[*operands(&n)[j]]
				if other.W == 0 && other.P == 0 || (other.W == 0) != (old.W == 0) {
					l = append(l, func(c *api.Code) { *operands(&c.Insts[i])[j] = v })
				}
			}
		}
		for j := takes(n.Op); j < 3; j++ {
			l = append(l, func(c *api.Code) { *operands(&c.Insts[i])[j] = 1 }, func(c *api.Code) { *operands(&c.Insts[i])[j] = -1 })
		}
	}
	for i, b := range c.Blocks {
		for _, n := range []int{-1, 1} {
			l = append(l, func(c *api.Code) { c.Blocks[i].From += n }, func(c *api.Code) { c.Blocks[i].Until += n })
		}
		for _, n := range []int{0, -1, len(c.Blocks), math.MinInt, math.MaxInt} {
			if b.End.Kind == api.EndJump || b.End.Kind == api.EndBranch {
				l = append(l, func(c *api.Code) { c.Blocks[i].End.To = n })
			}
			if b.End.Kind == api.EndBranch || n != 0 {
				l = append(l, func(c *api.Code) { c.Blocks[i].End.Else = n })
			}
		}
		for j := range b.End.ToArgs {
			for _, v := range append(unlike(c, b.End.ToArgs[j]), -1, len(c.Insts)) {
				l = append(l, func(c *api.Code) { c.Blocks[i].End.ToArgs[j] = v })
			}
		}
		for j := range b.End.ElseArgs {
			for _, v := range append(unlike(c, b.End.ElseArgs[j]), -1, len(c.Insts)) {
				l = append(l, func(c *api.Code) { c.Blocks[i].End.ElseArgs[j] = v })
			}
		}
		if b.End.Kind == api.EndBranch {
			for _, v := range append(unlike(c, b.End.A), -1, len(c.Insts)) {
				l = append(l, func(c *api.Code) { c.Blocks[i].End.A = v })
			}
		}
	}
	return l
}

// blockUntil is Until of the block of an instruction.
func blockUntil(c api.Code, i int) int {
	for _, b := range c.Blocks {
		if i < b.Until {
			return b.Until
		}
	}
	return -1
}

// unlike are the values of another width, or another kind.
func unlike(c api.Code, value int) []int {
	var l []int
	for v, n := range c.Insts {
		if n.W != c.Insts[value].W || n.P != c.Insts[value].P {
			l = append(l, v)
		}
	}
	return l
}

// P6.6
func TestDamage(t *testing.T) {
	for i, c := range append(codes(20, 250), loop(), lowered(), chapter()) {
		l := damages(c)
		for j, damage := range l {
			if d := changed(c, damage); (i+j)%3 == 0 {
				bad(t, "damage", d)
			} else if ssa.Valid(d) {
				t.Fatalf("%+v\nis not valid", d)
			}
		}
	}
}

// P6.7
func TestPlaces(t *testing.T) {
	r := rand.New(rand.NewSource(21))
	for _, c := range append(codes(22, 150), loop(), lowered()) {
		order, _ := ssa.Order(c)
		preds, _ := ssa.Preds(c)
		uses, _ := ssa.Uses(c)
		for _, place := range []func() int{func() int { return 0 }, func() int { return 4000 }, func() int { return r.Intn(4001) }} {
			d := changed(c, func(c *api.Code) {
				for i := range c.Insts {
					c.Insts[i].At = place()
				}
				for i := range c.Blocks {
					c.Blocks[i].End.At = place()
				}
			})
			results(t, d, order, preds, uses)
		}
		for _, at := range []int{-1, 4001, math.MinInt, math.MaxInt} {
			for i := range c.Insts {
				bad(t, at, changed(c, func(c *api.Code) { c.Insts[i].At = at }))
			}
			for i := range c.Blocks {
				bad(t, at, changed(c, func(c *api.Code) { c.Blocks[i].End.At = at }))
			}
		}
	}
}

// withUnused is code with an instruction more before the end of a block.
func withUnused(c api.Code, block int, n api.Inst) api.Code {
	return changed(c, func(c *api.Code) {
		at := c.Blocks[block].Until
		for _, p := range usePlaces(c) {
			if *p.value >= at {
				*p.value++
			}
		}
		c.Insts = slices.Insert(c.Insts, at, n)
		for i := block; i < len(c.Blocks); i++ {
			c.Blocks[i].Until++
			if i > block {
				c.Blocks[i].From++
			}
		}
	})
}

// P6.8
func TestUnused(t *testing.T) {
	for _, c := range append(codes(23, 300), loop(), lowered(), chapter()) {
		order, _ := ssa.Order(c)
		preds, _ := ssa.Preds(c)
		uses, _ := ssa.Uses(c)
		for i, b := range c.Blocks {
			l := []api.Inst{length(), constant(1, 1), {Op: api.OpConst, W: 64, N: math.MaxUint64, At: 4000}}
			for k := range c.Structs {
				l = append(l, api.Inst{Op: api.OpMake, P: 65 + k, N: uint64(k)})
			}
			for _, n := range l {
				results(t, withUnused(c, i, n), order, preds, slices.Insert(slices.Clone(uses), b.Until, 0))
			}
		}
	}
	// up to 3000 instructions
	for _, c := range []api.Code{loop(), lowered()} {
		for i := 0; len(c.Insts) < 3000; i++ {
			if i%200 == 0 {
				good(t, i, c)
			}
			c = withUnused(c, i%len(c.Blocks), length())
		}
		good(t, "3000 instructions", c)
		bad(t, "3001 instructions", withUnused(c, 1, length()))
	}
}

// The random code of these tests is of all sorts.
func TestSamples(t *testing.T) {
	seen := map[string]int{}
	ops := map[int]int{}
	for _, c := range codes(24, 600) {
		doms := dominatorsOf(c)
		for i, b := range c.Blocks {
			for _, n := range c.Insts[b.From:b.Until] {
				ops[n.Op]++
				if n.Op == api.OpParam && n.P > 64 {
					seen["struct passed"]++
				} else if n.Op == api.OpParam && n.P > 0 {
					seen["array passed"]++
				}
			}
			if b.From == b.Until {
				seen["empty block"]++
			}
			for _, s := range successors(c, i) {
				if slices.Contains(doms[i], s) {
					seen["back edge"]++
				} else if s < i {
					seen["edge to a lesser block"]++
				}
			}
			if b.End.Kind == api.EndBranch && b.End.To == b.End.Else {
				seen["branch to one block"]++
			}
			seen[[]string{"", "jump", "branch", "accept", "reject"}[b.End.Kind]]++
		}
		for _, p := range usePlaces(&c) {
			if b := c.Blocks[p.block]; *p.value < b.From {
				seen["value of a lesser block"]++
			} else if *p.value >= b.Until {
				seen["value of a greater block"]++
			} else {
				seen["value of the block"]++
			}
		}
	}
	for _, op := range append(operators, api.OpParam) {
		if ops[op] < 30 {
			t.Errorf("operator %d: %d", op, ops[op])
		}
	}
	for _, what := range []string{"struct passed", "array passed", "empty block", "back edge", "edge to a lesser block", "branch to one block", "jump", "branch", "accept", "reject", "value of a lesser block", "value of a greater block", "value of the block"} {
		if seen[what] < 100 {
			t.Errorf("%s: %d", what, seen[what])
		}
	}
}
