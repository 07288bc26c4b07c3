package ssa

import (
	"slices"

	"formfinder/api"
)

// edge leads to a successor, to whose parameters values are passed on.
type edge struct {
	to   int
	args []int
}

// edgesOf returns the edges of an end, that to To first.
func edgesOf(e api.End) []edge {
	switch e.Kind {
	case api.EndJump:
		return []edge{{e.To, e.ToArgs}}
	case api.EndBranch:
		return []edge{{e.To, e.ToArgs}, {e.Else, e.ElseArgs}}
	}
	return nil
}

// endsFit reports whether the ends have kinds, what is not used is 0 or empty,
// and successors get as many values as they have parameters.
func (c *code) endsFit() bool {
	return !slices.ContainsFunc(c.Blocks, func(b api.Block) bool {
		return !isPlace(b.End.At) || !endFits(b.End) ||
			slices.ContainsFunc(edgesOf(b.End), c.isNoEdge)
	})
}

// endFits reports whether an end has a kind, and none of the fields that this
// does not use.
func endFits(e api.End) bool {
	switch e.Kind {
	case api.EndJump:
		return e.A == 0 && e.Else == 0 && len(e.ElseArgs) == 0 && e.N == 0
	case api.EndBranch:
		return e.N == 0
	case api.EndAccept:
		return leadsNowhere(e) && e.N == 0
	case api.EndReject:
		return leadsNowhere(e) && within(e.N, 0, 255)
	}
	return false
}

func leadsNowhere(e api.End) bool {
	return e.A == 0 && e.To == 0 && e.Else == 0 && len(e.ToArgs) == 0 && len(e.ElseArgs) == 0
}

// isNoEdge reports whether an edge leads to no block, or to the block 0, or
// passes too few or too many values.
func (c *code) isNoEdge(e edge) bool {
	return e.to == 0 || !isIndex(e.to, c.Blocks) || len(e.args) != c.params[e.to]
}

// argumentsFit reports whether branches are on integers of the width 1, and
// the values that are passed on are like the parameters.
func (c *code) argumentsFit() bool {
	return !slices.ContainsFunc(c.Blocks, func(b api.Block) bool {
		return b.End.Kind == api.EndBranch && c.width(b.End.A) != 1 ||
			slices.ContainsFunc(edgesOf(b.End), c.isUnfit)
	})
}

// isUnfit reports whether an edge passes a value to a parameter of another
// width, or another kind.
func (c *code) isUnfit(e edge) bool {
	first := c.Blocks[e.to].From
	for i, v := range e.args {
		value, param := c.Insts[v], c.Insts[first+i]
		if value.W != param.W || value.P != param.P {
			return true
		}
	}
	return false
}
