package flow_test

import (
	"fmt"
	"math/rand"
	"slices"
	"strings"
	"testing"

	"formfinder/api"
	"formfinder/flow"
)

// samples are random codes, small and large ones, and those of sources.
func samples(t *testing.T, seed int64) []api.Code {
	l := append(codes(seed, 400), large(seed+1, 20)...)
	for _, source := range sources(seed+2, 60) {
		l = append(l, compile(t, source))
	}
	return append(l, fullCode(t))
}

func immediate(t *testing.T, c api.Code) []int {
	t.Helper()
	l, e := flow.Doms(c)
	if e != api.OK || len(l) != len(c.Blocks) || l[0] != -1 {
		t.Fatalf("%s: %v, error %d", wordsOf(c), l, e)
	}
	return l
}

// P8.2
func TestDominators(t *testing.T) {
	for _, c := range samples(t, 10) {
		for b, d := range immediate(t, c) {
			if b > 0 && (d == b || d < 0 || d >= len(c.Blocks) || isReached(c, b, d)) {
				t.Fatalf("%s: the block %d can be reached without %d", wordsOf(c), b, d)
			}
		}
	}
}

// P8.3
func TestNearest(t *testing.T) {
	for _, c := range samples(t, 20) {
		l := immediate(t, c)
		for b := range c.Blocks {
			chain := map[int]bool{b: true}
			for d := l[b]; d >= 0; d = l[d] {
				if chain[d] {
					t.Fatalf("%s: %v: the chain of %d has no end", wordsOf(c), l, b)
				}
				chain[d] = true
			}
			if !chain[0] {
				t.Fatalf("%s: %v: the chain of %d does not begin in the block 0", wordsOf(c), l, b)
			}
			for other := range c.Blocks {
				if !chain[other] && !isReached(c, b, other) {
					t.Fatalf("%s: %v: the block %d cannot be reached without %d", wordsOf(c), l, b, other)
				}
			}
		}
	}
}

// withLoops are those of some codes that are reducible, each one with its loops.
func withLoops(t *testing.T, l []api.Code, check func(c api.Code, loops []api.Loop)) {
	t.Helper()
	many, irreducible := 0, 0
	for _, c := range l {
		loops, e := flow.Loops(c)
		switch e {
		case api.OK:
			if len(loops) > 1 {
				many++
			}
			check(c, loops)
		case api.ErrLoop:
			irreducible++
		default:
			t.Fatalf("%s: error %d", wordsOf(c), e)
		}
	}
	if many < 40 || irreducible < 40 {
		t.Errorf("few of a sort: %d with more than one loop, %d not reducible", many, irreducible)
	}
}

func isIn(l api.Loop) func(block int) bool {
	return func(block int) bool { return slices.Contains(l.Blocks, block) }
}

// P8.4, and the order of H2.
func TestWithin(t *testing.T) {
	withLoops(t, samples(t, 30), func(c api.Code, loops []api.Loop) {
		if !slices.IsSortedFunc(loops, func(a, b api.Loop) int { return a.Head - b.Head }) {
			t.Fatalf("%s: %v", wordsOf(c), loops)
		}
		for i, l := range loops {
			if i > 0 && l.Head == loops[i-1].Head || !slices.IsSorted(l.Blocks) || len(slices.Compact(slices.Clone(l.Blocks))) != len(l.Blocks) || !slices.Contains(l.Blocks, l.Head) {
				t.Fatalf("%s: %v", wordsOf(c), loops)
			}
			for _, b := range l.Blocks {
				if !connects(c, l.Head, b, isIn(l)) || !connects(c, b, l.Head, isIn(l)) {
					t.Fatalf("%s: %v: within the loop, %d is not connected with the header", wordsOf(c), l, b)
				}
				if isReached(c, b, l.Head) {
					t.Fatalf("%s: %v: the header does not dominate %d", wordsOf(c), l, b)
				}
			}
		}
	})
}

// rounds are the ways from a block to itself on which no other block is twice, as far as they are not too many.
func rounds(c api.Code, most int) [][]int {
	var l [][]int
	var walk func(way []int)
	walk = func(way []int) {
		for _, s := range successors(c, way[len(way)-1]) {
			if s == way[0] && len(l) < most {
				l = append(l, slices.Clone(way))
			} else if s > way[0] && !slices.Contains(way, s) && len(l) < most {
				walk(append(way, s))
			}
		}
	}
	for b := range c.Blocks {
		walk([]int{b})
	}
	return l
}

// isCovered says that a header is on a way, and its loop contains the whole way.
func isCovered(way []int, loops []api.Loop) bool {
	return slices.ContainsFunc(loops, func(l api.Loop) bool {
		return slices.Contains(way, l.Head) && !slices.ContainsFunc(way, func(b int) bool { return !slices.Contains(l.Blocks, b) })
	})
}

// P8.5
func TestAllLoops(t *testing.T) {
	r := rand.New(rand.NewSource(41))
	withLoops(t, codes(40, 1500), func(c api.Code, loops []api.Loop) {
		for _, way := range rounds(c, 300) {
			if !isCovered(way, loops) {
				t.Fatalf("%s: %v: the way %v", wordsOf(c), loops, way)
			}
		}
		// longer ways, with blocks that are on them more than once
		for range 5 {
			var way []int
			for b := 0; len(way) < 40; {
				way = append(way, b)
				l := successors(c, b)
				if len(l) == 0 {
					break
				}
				b = pick(r, l)
			}
			for i, first := range way {
				for j := i + 1; j < len(way); j++ {
					if way[j] == first && !isCovered(way[i:j], loops) {
						t.Fatalf("%s: %v: the way %v", wordsOf(c), loops, way[i:j])
					}
				}
			}
		}
	})
}

// P8.5, H2: code that is refused has a way without a back edge.
func TestRefused(t *testing.T) {
	many := 0
	for _, c := range codes(45, 1500) {
		_, e := flow.Loops(c)
		noHeader := slices.ContainsFunc(rounds(c, 1<<20), func(way []int) bool {
			return !slices.ContainsFunc(way, func(h int) bool {
				return !slices.ContainsFunc(way, func(b int) bool { return isReached(c, b, h) })
			})
		})
		// If a block on such a way dominates all of it, the edge that leads to this block there is a back edge.
		if noHeader != (e == api.ErrLoop) {
			t.Fatalf("%s: error %d; a way that no block of it dominates: %v", wordsOf(c), e, noHeader)
		}
		if noHeader {
			many++
		}
	}
	if many < 100 {
		t.Error("few that are not reducible:", many)
	}
}

// P8.6
func TestNesting(t *testing.T) {
	withLoops(t, samples(t, 50), func(c api.Code, loops []api.Loop) {
		for _, a := range loops {
			for _, b := range loops {
				common := 0
				for _, block := range a.Blocks {
					if slices.Contains(b.Blocks, block) {
						common++
					}
				}
				if common != 0 && common != len(a.Blocks) && common != len(b.Blocks) {
					t.Fatalf("%s: %v and %v", wordsOf(c), a, b)
				}
			}
		}
	})
}

// P8.7
func TestMeeting(t *testing.T) {
	between := map[int]int{}
	for _, c := range append(samples(t, 60), codes(61, 2000)...) {
		for i, b := range c.Blocks {
			m, found, e := flow.Diamond(c, i)
			if e != api.OK {
				t.Fatalf("%s: error %d", wordsOf(c), e)
			}
			if !found {
				continue
			}
			many := 0
			for _, side := range successors(c, i) {
				if side != m {
					many++
				}
				if side != m && !slices.Equal(successors(c, side), []int{m}) || b.End.Kind != api.EndBranch || m == i {
					t.Fatalf("%s: the branch of %d meets at %d", wordsOf(c), i, m)
				}
				// nothing else leads to what lies between
				for j := range c.Blocks {
					if side != m && j != i && slices.Contains(successors(c, j), side) {
						t.Fatalf("%s: the branch of %d meets at %d; %d leads to %d", wordsOf(c), i, m, j, side)
					}
				}
			}
			between[many]++
		}
	}
	if len(between) != 2 || between[1] < 100 || between[2] < 100 {
		t.Error("branches with so many blocks between:", between)
	}
}

// P8.8
func TestEntering(t *testing.T) {
	withLoops(t, samples(t, 70), func(c api.Code, loops []api.Loop) {
		for _, l := range loops {
			for from := range c.Blocks {
				for _, to := range successors(c, from) {
					if !isIn(l)(from) && isIn(l)(to) && to != l.Head {
						t.Fatalf("%s: %v: the edge from %d to %d", wordsOf(c), l, from, to)
					}
				}
			}
		}
	})
}

// P8.5: what is lowered is reducible, and so is what is made so.
func TestReducible(t *testing.T) {
	for _, source := range sources(80, 300) {
		if _, e := flow.Loops(compile(t, source)); e != api.OK {
			t.Fatalf("%s: error %d", source, e)
		}
	}
	r := rand.New(rand.NewSource(81))
	for i := range 600 {
		if c := reducibleCode(r, 1+i%60); len(c.Blocks) > 0 {
			if _, e := flow.Loops(c); e != api.OK {
				t.Fatalf("%s: error %d", wordsOf(c), e)
			}
		}
	}
}

// row is code with as many blocks as there may be: the last one accepts, and each other one has the word that a function says.
func row(word func(block int) string) api.Code {
	var l []string
	for i := range 399 {
		l = append(l, word(i))
	}
	return codeOf(strings.Join(append(l, "-"), " "))
}

// P8.1, P1: as many blocks as there may be.
func TestMostBlocks(t *testing.T) {
	before := span(-1, 398)
	none := slices.Repeat([]int{-1}, 400)
	first := append([]int{-1}, make([]int, 399)...)

	// one after the other
	results(t, row(func(i int) string { return fmt.Sprint(i + 1) }), before, nil, true, none)

	// each one leads to the one before, too
	var steps []api.Loop
	for h := 1; h < 398; h++ {
		steps = append(steps, loop(span(h, 398)...))
	}
	results(t, row(func(i int) string {
		if i < 2 {
			return fmt.Sprint(i + 1)
		}
		return fmt.Sprint(i+1, ",", i-1)
	}), before, steps, true, none)

	// each one leads to the first one, too
	results(t, row(func(i int) string {
		if i == 0 {
			return "1"
		}
		return fmt.Sprint(1, ",", i+1)
	}), before, list(loop(span(1, 398)...)), true, none)

	// headers one after the other, and then the ends of their loops
	var nested []api.Loop
	for h := 1; h < 200; h++ {
		nested = append(nested, loop(span(h, 399-h)...))
	}
	results(t, row(func(i int) string {
		if i < 200 {
			return fmt.Sprint(i + 1)
		}
		return fmt.Sprint(399-i, ",", i+1)
	}), before, nested, true, none)

	// branches that meet, one after the other
	doms, meetings := slices.Clone(before), slices.Clone(none)
	for i := 0; i < 399; i += 3 {
		doms[i+2], doms[i+3], meetings[i] = i, i, i+3
	}
	results(t, row(func(i int) string {
		if i%3 == 0 {
			return fmt.Sprint(i+1, ",", i+2)
		}
		return fmt.Sprint(i - i%3 + 3)
	}), doms, nil, true, meetings)

	// each one leads to the two behind it
	results(t, row(func(i int) string {
		if i == 398 {
			return "399"
		}
		return fmt.Sprint(i+1, ",", i+2)
	}), first, nil, true, none)

	// a long way from a block to itself with two entries
	entries := slices.Clone(before)
	entries[200] = 0
	c := row(func(i int) string {
		if i == 0 {
			return "1,200"
		}
		return fmt.Sprint(i + 1)
	})
	c.Blocks[399].End = api.End{Kind: api.EndJump, To: 1}
	results(t, c, entries, nil, false, none)
}
