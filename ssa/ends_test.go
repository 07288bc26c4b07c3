package ssa_test

import (
	"math"
	"slices"
	"testing"

	"formfinder/api"
)

// ended is code whose block 0 has integers of the widths 1, 8 and 1, and pointers of the kinds 8 and 65, and ends in a way. The block 1 has no parameters, the blocks 2 and 3 have one, of the width 8, and the block 4 one of the width 1 and one of the kind 8. A block that the end does not lead to is reached from the others.
func ended(e api.End) api.Code {
	c := codeOf(
		blockOf(e, constant(1, 1), length(), constant(1, 0), create(1, 8), api.Inst{Op: api.OpMake, P: 65}),
		blockOf(branchWith(0, 2, []int{1}, 4, []int{2, 3})),
		blockOf(branchWith(0, 3, []int{1}, 4, []int{2, 3}), integer(8)),
		blockOf(branchWith(0, 4, []int{0, 3}, 1, nil), integer(8)),
		blockOf(branchWith(0, 1, nil, 2, []int{1}), integer(1), pointer(8)),
	)
	return c
}

// P6.1, F1: rule 4, with the rows of the table.
func TestEnds(t *testing.T) {
	for _, e := range []api.End{
		jump(1), jump(2, 1), jump(3, 1), jump(4, 0, 3), jump(4, 2, 3),
		branch(0, 1, 1), branch(2, 1, 1), branchWith(0, 1, nil, 2, []int{1}), branchWith(2, 2, []int{1}, 1, nil), branchWith(0, 2, []int{1}, 2, []int{1}), branchWith(0, 2, []int{1}, 3, []int{1}), branchWith(0, 4, []int{0, 3}, 4, []int{2, 3}), branchWith(2, 4, []int{2, 3}, 3, []int{1}),
	} {
		good(t, e, ended(e))
		for _, change := range endChanges(e) {
			bad(t, change, ended(change))
		}
		for at, valid := range places {
			e.At = at
			if expect(t, ended(e)) != valid {
				t.Errorf("%v: want %v", e, valid)
			}
		}
	}
	for n := -3; n < 300; n++ {
		if c := codeOf(blockOf(reject(n))); 0 <= n && n <= 255 {
			good(t, n, c)
		} else {
			bad(t, n, c)
		}
	}
	for _, e := range []api.End{accept(), reject(0), reject(255), reject(7)} {
		good(t, e, codeOf(blockOf(e, length())))
		good(t, e, codeOf(blockOf(jump(1)), blockOf(e)))
		for _, change := range lastChanges(e) {
			bad(t, change, codeOf(blockOf(change, length())))
			bad(t, change, codeOf(blockOf(jump(1), length()), blockOf(change)))
			bad(t, change, codeOf(blockOf(jump(1), length()), blockOf(jump(2)), blockOf(change)))
		}
		for at, valid := range places {
			e.At = at
			if expect(t, codeOf(blockOf(e))) != valid || expect(t, codeOf(blockOf(jump(1)), blockOf(e))) != valid {
				t.Errorf("%v: want %v", e, valid)
			}
		}
	}
	for _, n := range []int{math.MinInt, -1, 1, 255, 256, math.MaxInt} {
		bad(t, n, codeOf(blockOf(api.End{Kind: api.EndAccept, N: n})))
	}
	for _, kind := range []int{math.MinInt, -4, -1, 0, 5, 6, 256, 1<<32 + api.EndAccept, math.MaxInt} {
		for _, e := range []api.End{{Kind: kind}, {Kind: kind, To: 1}, {Kind: kind, To: 1, Else: 1}, {Kind: kind, N: 1}} {
			bad(t, e, ended(e))
			bad(t, e, codeOf(blockOf(e)))
			bad(t, e, codeOf(blockOf(jump(1)), blockOf(e)))
		}
	}
}

var places = map[int]bool{math.MinInt: false, -1: false, 0: true, 1: true, 3999: true, 4000: true, 4001: false, math.MaxInt: false}

// endChanges are jumps and branches that are put out of what the table says.
func endChanges(e api.End) []api.End {
	var l []api.End
	add := func(change func(e *api.End)) {
		other := e
		other.ToArgs, other.ElseArgs = slices.Clone(e.ToArgs), slices.Clone(e.ElseArgs)
		change(&other)
		l = append(l, other)
	}
	for _, n := range []int{math.MinInt, -1, 1, 8, 255, 256, math.MaxInt} {
		add(func(e *api.End) { e.N = n })
	}
	for _, to := range []int{math.MinInt, -1, 0, 5, 6, math.MaxInt} {
		add(func(e *api.End) { e.To = to })
		if to != 0 || e.Kind == api.EndBranch {
			add(func(e *api.End) { e.Else = to })
		}
	}
	if e.Kind == api.EndJump {
		for _, n := range []int{-1, 1, 2, 3, 4, 5, math.MaxInt} {
			add(func(e *api.End) { e.A = n })
			add(func(e *api.End) { e.Else = n })
			add(func(e *api.End) { e.ElseArgs = []int{n} })
		}
		add(func(e *api.End) { e.ElseArgs = []int{0} })
	} else {
		// of the width 8, pointers, and none
		for _, v := range []int{math.MinInt, -1, 1, 3, 4, 5, 6, 7, 8, 100, math.MaxInt} {
			add(func(e *api.End) { e.A = v })
		}
	}
	lists := []func(e *api.End) *[]int{func(e *api.End) *[]int { return &e.ToArgs }}
	if e.Kind == api.EndBranch {
		lists = append(lists, func(e *api.End) *[]int { return &e.ElseArgs })
	}
	for _, list := range lists {
		many := len(*list(&e))
		// too many, and too few
		for v := range 9 {
			add(func(e *api.End) { *list(e) = append(*list(e), v) })
			add(func(e *api.End) { *list(e) = append([]int{v}, *list(e)...) })
		}
		for i := range many {
			add(func(e *api.End) { *list(e) = slices.Delete(*list(e), i, i+1) })
			like := map[int][]int{0: {0, 2}, 1: {1}, 2: {0, 2}, 3: {3}}[(*list(&e))[i]]
			for v := -1; v < 10; v++ {
				if !slices.Contains(like, v) {
					add(func(e *api.End) { (*list(e))[i] = v })
				}
			}
			for _, v := range []int{math.MinInt, math.MaxInt} {
				add(func(e *api.End) { (*list(e))[i] = v })
			}
		}
		if many == 2 {
			add(func(e *api.End) { l := *list(e); l[0], l[1] = l[1], l[0] })
		}
	}
	return l
}

// lastChanges are accepts and rejects with something in a field that they do not use.
func lastChanges(e api.End) []api.End {
	var l []api.End
	for _, n := range []int{math.MinInt, -1, 1, 2, math.MaxInt} {
		for _, change := range []func(e *api.End){func(e *api.End) { e.A = n }, func(e *api.End) { e.To = n }, func(e *api.End) { e.Else = n }, func(e *api.End) { e.ToArgs = []int{n} }, func(e *api.End) { e.ElseArgs = []int{n} }} {
			other := e
			change(&other)
			l = append(l, other)
		}
	}
	to, from := e, e
	to.ToArgs, from.ElseArgs = []int{0}, []int{0}
	return append(l, to, from)
}

// P6.1, F1: a value that is passed on has the W and the P of the parameter.
func TestPassing(t *testing.T) {
	values := []api.Inst{constant(1, 0), constant(8, 0), constant(64, 0), create(0, 1), create(0, 8), create(0, 64), {Op: api.OpMake, P: 65}, {Op: api.OpMake, P: 66, N: 1}}
	params := []api.Inst{integer(1), integer(8), integer(64), pointer(1), pointer(8), pointer(64), pointer(65), pointer(66)}
	for i, value := range values {
		for j, param := range params {
			for _, c := range []api.Code{
				codeOf(blockOf(jump(1, 1), constant(1, 0), value), blockOf(accept(), param)),
				codeOf(blockOf(jump(1, 1, 0), constant(1, 0), value), blockOf(accept(), param, integer(1))),
				codeOf(blockOf(jump(1, 0, 1), constant(1, 0), value), blockOf(accept(), integer(1), param)),
				codeOf(blockOf(branchWith(0, 1, nil, 2, []int{1}), constant(1, 0), value), blockOf(accept()), blockOf(accept(), param)),
				codeOf(blockOf(branchWith(0, 2, []int{0, 1}, 1, nil), constant(1, 0), value), blockOf(accept()), blockOf(accept(), integer(1), param)),
				codeOf(blockOf(jump(1), constant(1, 0), value), blockOf(jump(2, 1)), blockOf(jump(2, 1), param)),
			} {
				if i == j {
					good(t, value, c)
				} else {
					bad(t, value, c)
				}
			}
		}
	}
	// what has no value is passed to no parameter
	bad(t, "none", codeOf(blockOf(jump(1, 1), length(), emit(0, 0)), blockOf(accept(), integer(8))))
	bad(t, "none", codeOf(blockOf(jump(1, 1), length(), emit(0, 0)), blockOf(accept(), api.Inst{Op: api.OpParam})))
}

// P6.1, F1: rule 5.
func TestReached(t *testing.T) {
	bit := constant(1, 0)
	for _, c := range []api.Code{
		codeOf(blockOf(accept())), codeOf(blockOf(jump(1)), blockOf(accept())), codeOf(blockOf(jump(2)), blockOf(accept()), blockOf(jump(1))), codeOf(blockOf(branch(0, 2, 1), bit), blockOf(accept()), blockOf(jump(2))),
		codeOf(blockOf(jump(1)), blockOf(jump(2)), blockOf(jump(1))), codeOf(blockOf(branch(0, 3, 3), bit), blockOf(accept()), blockOf(accept()), blockOf(branch(0, 1, 2))),
	} {
		good(t, "reached", c)
	}
	for _, c := range []api.Code{
		// blocks that nothing leads to, or only they themselves
		codeOf(blockOf(accept()), blockOf(accept())), codeOf(blockOf(jump(1)), blockOf(accept()), blockOf(accept())), codeOf(blockOf(jump(2)), blockOf(accept()), blockOf(accept())), codeOf(blockOf(jump(2)), blockOf(jump(2)), blockOf(accept())), codeOf(blockOf(accept()), blockOf(jump(1))),
		codeOf(blockOf(jump(1)), blockOf(accept()), blockOf(jump(3)), blockOf(jump(2))), codeOf(blockOf(jump(1)), blockOf(accept()), blockOf(jump(3)), blockOf(jump(1))), codeOf(blockOf(branch(0, 1, 1), bit), blockOf(accept()), blockOf(accept())), codeOf(blockOf(branch(0, 2, 3), bit), blockOf(jump(2)), blockOf(accept()), blockOf(reject(1))),
		// the block 0 is a successor
		codeOf(blockOf(jump(0))), codeOf(blockOf(jump(1)), blockOf(jump(0))), codeOf(blockOf(branch(0, 0, 1), bit), blockOf(accept())), codeOf(blockOf(branch(0, 1, 0), bit), blockOf(accept())), codeOf(blockOf(branch(0, 0, 0), bit)), codeOf(blockOf(branch(0, 1, 2), bit), blockOf(accept()), blockOf(branch(0, 1, 0))), codeOf(blockOf(branch(0, 1, 2), bit), blockOf(accept()), blockOf(branch(0, 0, 1))),
		codeOf(blockOf(jump(0)), blockOf(accept())), codeOf(blockOf(branch(0, 1, 1), bit), blockOf(jump(2)), blockOf(jump(3)), blockOf(jump(0))),
	} {
		bad(t, "not reached", c)
	}
}

// P6.1, F1: rule 6. In each code the value with a number is used by emits and ends of all blocks, one after the other.
func TestDominance(t *testing.T) {
	bit := constant(1, 0)
	graphs := []struct {
		blocks []block
		doms   [][]int // the blocks that dominate each one, but for itself
	}{
		{[]block{blockOf(accept())}, [][]int{{}}},
		{[]block{blockOf(jump(1)), blockOf(accept())}, [][]int{{}, {0}}},
		// numbers that go the other way
		{[]block{blockOf(jump(3)), blockOf(accept()), blockOf(jump(1)), blockOf(jump(2))}, [][]int{{}, {0, 2, 3}, {0, 3}, {0}}},
		// a diamond, with something behind it
		{[]block{blockOf(branch(0, 1, 2), bit), blockOf(jump(3)), blockOf(jump(3)), blockOf(jump(4)), blockOf(accept())}, [][]int{{}, {0}, {0}, {0}, {0, 3}}},
		{[]block{blockOf(branch(0, 4, 3), bit), blockOf(accept()), blockOf(jump(1)), blockOf(jump(2)), blockOf(jump(2))}, [][]int{{}, {0, 2}, {0}, {0}, {0}}},
		// an if without an else
		{[]block{blockOf(branch(0, 1, 2), bit), blockOf(jump(2)), blockOf(accept())}, [][]int{{}, {0}, {0}}},
		// a side that ends
		{[]block{blockOf(branch(0, 1, 2), bit), blockOf(reject(1)), blockOf(jump(3)), blockOf(accept())}, [][]int{{}, {0}, {0}, {0, 2}}},
		// loops
		{[]block{blockOf(jump(1), bit), blockOf(branch(0, 2, 3)), blockOf(jump(1)), blockOf(accept())}, [][]int{{}, {0}, {0, 1}, {0, 1}}},
		{[]block{blockOf(jump(1), bit), blockOf(branch(0, 1, 2)), blockOf(accept())}, [][]int{{}, {0}, {0, 1}}},
		{[]block{blockOf(jump(1)), blockOf(jump(2)), blockOf(jump(3)), blockOf(jump(1))}, [][]int{{}, {0}, {0, 1}, {0, 1, 2}}},
		{[]block{blockOf(jump(3), bit), blockOf(branch(0, 1, 3)), blockOf(accept()), blockOf(branch(0, 1, 2))}, [][]int{{}, {0, 3}, {0, 3}, {0}}},
		// loops that can be entered at two blocks
		{[]block{blockOf(branch(0, 1, 2), bit), blockOf(jump(2)), blockOf(branch(0, 1, 3)), blockOf(accept())}, [][]int{{}, {0}, {0}, {0, 2}}},
		{[]block{blockOf(branch(0, 1, 3), bit), blockOf(jump(2)), blockOf(branch(0, 1, 3)), blockOf(branch(0, 2, 4)), blockOf(accept())}, [][]int{{}, {0}, {0}, {0}, {0, 3}}},
		{[]block{blockOf(branch(0, 5, 4), bit), blockOf(branch(0, 2, 3)), blockOf(jump(1)), blockOf(branch(0, 2, 4)), blockOf(jump(1)), blockOf(branch(0, 3, 1))}, [][]int{{}, {0}, {0}, {0}, {0}, {0}}},
		// both sides lead to one block
		{[]block{blockOf(branch(0, 1, 1), bit), blockOf(branch(0, 2, 2)), blockOf(accept())}, [][]int{{}, {0}, {0, 1}}},
	}
	for i, g := range graphs {
		for home := range g.blocks {
			for user := range g.blocks {
				if c := usedIn(g.blocks, home, user); home == user || slices.Contains(g.doms[user], home) {
					good(t, []int{i, home, user}, c)
				} else {
					bad(t, []int{i, home, user}, c)
				}
			}
		}
	}
}

// usedIn is code in which a value of one block is used by an instruction of another one, or of the same one.
func usedIn(blocks []block, home, user int) api.Code {
	l := slices.Clone(blocks)
	made := codeOf(l...).Blocks[home].Until
	if home > user {
		made++ // behind the instruction that uses it
	}
	l[home].insts = append(slices.Clone(l[home].insts), length())
	l[user].insts = append(slices.Clone(l[user].insts), emit(made, 0))
	return codeOf(l...)
}

// P6.1, F1: rule 6 for the values of one block, and for what ends use.
func TestOrderOfValues(t *testing.T) {
	not := func(a int) api.Inst { return unary(api.OpNot, 8, a, 0) }
	// in a block, earlier instructions alone, in loops, too
	good(t, "earlier", codeOf(blockOf(accept(), length(), not(0), not(1), not(0))))
	bad(t, "itself", codeOf(blockOf(accept(), length(), not(1))))
	bad(t, "itself", codeOf(blockOf(accept(), not(0))))
	bad(t, "later", codeOf(blockOf(accept(), not(1), length())))
	bad(t, "later", codeOf(blockOf(accept(), length(), not(2), length())))
	bad(t, "later", codeOf(blockOf(jump(1)), blockOf(jump(1), not(1), length())))
	bad(t, "itself", codeOf(blockOf(jump(1)), blockOf(jump(1), not(0))))
	bad(t, "each other", codeOf(blockOf(jump(1)), blockOf(jump(2), not(1)), blockOf(jump(1), not(0))))
	good(t, "blocks in another order", codeOf(blockOf(jump(2)), blockOf(accept(), not(1)), blockOf(jump(1), length())))
	bad(t, "blocks in order", codeOf(blockOf(jump(2)), blockOf(jump(1), length()), blockOf(jump(1), not(0))))
	for _, n := range []api.Inst{binary(api.OpAdd, 8, 1, 2), binary(api.OpAdd, 8, 2, 1), binary(api.OpJoin, 16, 0, 2), put(1, 2, 0), put(1, 0, 2), load(8, 1, 2)} {
		bad(t, n, codeOf(blockOf(accept(), length(), create(0, 8), n, length())))
	}
	bad(t, "a later object", codeOf(blockOf(accept(), length(), put(2, 0, 0), create(0, 8))))
	bad(t, "a later index", codeOf(blockOf(accept(), api.Inst{Op: api.OpMake, P: 65}, load(8, 0, 2), constant(8, 0))))

	// an end uses all values of its block, and none of another one
	bit := constant(1, 0)
	good(t, "last", codeOf(blockOf(branch(1, 1, 1), length(), bit), blockOf(accept())))
	good(t, "last", codeOf(blockOf(jump(1, 1), length(), length()), blockOf(accept(), integer(8))))
	bad(t, "behind", codeOf(blockOf(branch(1, 1, 1), length()), blockOf(accept(), bit)))
	bad(t, "behind", codeOf(blockOf(jump(1, 1), length()), blockOf(accept(), integer(8))))
	bad(t, "behind", codeOf(blockOf(branchWith(0, 1, []int{2}, 1, []int{1}), bit, length()), blockOf(accept(), integer(8))))
	bad(t, "behind", codeOf(blockOf(branchWith(0, 1, []int{1}, 1, []int{2}), bit, length()), blockOf(accept(), integer(8))))
	// what a loop passes to itself
	good(t, "loop", codeOf(blockOf(jump(1, 0), length()), blockOf(jump(1, 1), integer(8))))
	good(t, "loop", codeOf(blockOf(jump(1, 0), length()), blockOf(jump(1, 2), integer(8), not(1))))
	bad(t, "loop", codeOf(blockOf(jump(1, 2), length()), blockOf(jump(1, 2), integer(8), not(1))))
	// from one side of a branch alone
	sides := func(a, b int) api.Code {
		return codeOf(blockOf(branch(0, 1, 2), bit), blockOf(jump(3, a), length()), blockOf(jump(3, b), length()), blockOf(accept(), integer(8), emit(3, 0)))
	}
	good(t, "sides", sides(1, 2))
	bad(t, "sides", sides(2, 2))
	bad(t, "sides", sides(1, 1))
	bad(t, "sides", sides(2, 1))
	bad(t, "sides", sides(3, 2))
}
