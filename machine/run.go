package machine

import (
	"errors"
	"iter"
	"slices"

	"formfinder/api"
	"formfinder/ssa"
)

// run is a run of valid code on an input.
type run struct {
	api.Machine
	code    api.Code
	input   []byte
	methods map[int]method
	turn    func(block int, to bool) // is told each block that the run leaves
}

// begin returns a run at its beginning, and whether the code and the input are
// valid.
func begin(c api.Code, input []byte) (*run, bool) {
	if len(input) > api.MaxInput || !ssa.Valid(c) {
		return nil, false
	}
	r := &run{code: c, input: input, turn: func(int, bool) {}}
	r.Vals = make([]uint64, len(c.Insts))
	r.methods = r.instructions()
	return r, true
}

// repeat returns what is equal to a run and shares no memory with it, and
// whether the run is valid. Only doing all its steps again can tell this.
func repeat(c api.Code, input []byte, m api.Machine) (*run, bool) {
	if m.Steps > api.MaxSteps {
		return nil, false
	}
	r, valid := begin(c, input)
	if !valid {
		return nil, false
	}
	r.advance(m.Steps)
	return r, sameRun(r.Machine, m)
}

// advance makes steps until there are so many, or there is an outcome.
func (r *run) advance(most int) {
	for step := range r.steps(most) {
		step()
	}
}

// steps yields the steps of the run, as long as there are fewer than so many,
// and there is no outcome. Which step is next depends on what those before it
// did.
func (r *run) steps(most int) iter.Seq[func()] {
	return func(yield func(step func()) bool) {
		for r.Steps < most && !r.hasOutcome() {
			r.Steps++
			if !yield(r.next()) {
				return
			}
		}
	}
}

func (r *run) hasOutcome() bool {
	return r.Out.Kind != 0
}

// block returns the block in which the run is.
func (r *run) block() api.Block {
	return r.code.Blocks[r.Block]
}

// next returns the step that comes next.
func (r *run) next() func() {
	if r.Next < r.block().Until {
		return r.instruction
	}
	return r.end
}

// instruction is the step of the next instruction.
func (r *run) instruction() {
	i := r.code.Insts[r.Next]
	value, err := r.methods[i.Op](i)
	if err != nil {
		r.stop(err, i.At)
		return
	}
	r.Vals[r.Next] = value
	r.Next++
}

// stop ends the run with the fault of the next instruction.
func (r *run) stop(err error, at int) {
	var f fault
	if errors.As(err, &f) {
		r.Out = api.Outcome{Kind: api.OutFault, Code: int(f), At: at, N: r.Next}
	}
}

// end is the step of the end of the block.
func (r *run) end() {
	e := r.block().End
	switch e.Kind {
	case api.EndJump:
		r.leave(e, true)
	case api.EndBranch:
		r.leave(e, r.Vals[e.A] == 1)
	case api.EndAccept:
		r.Out = api.Outcome{Kind: api.OutAccept, At: e.At, N: r.Block, Values: slices.Clone(r.Values)}
	case api.EndReject:
		r.Out = api.Outcome{Kind: api.OutReject, Code: e.N, At: e.At, N: r.Block}
	}
}

// leave goes from the block to To, or to Else.
func (r *run) leave(e api.End, to bool) {
	r.turn(r.Block, to)
	if to {
		r.enter(e.To, e.ToArgs)
	} else {
		r.enter(e.Else, e.ElseArgs)
	}
}

// enter leads to the beginning of a block, whose parameters become arguments.
func (r *run) enter(block int, args []int) {
	values := make([]uint64, len(args))
	// A parameter of the block may be an argument, too, so that all of them are
	// read before one is changed.
	for i, a := range args {
		values[i] = r.Vals[a]
	}
	r.Block, r.Next = block, r.code.Blocks[block].From
	copy(r.Vals[r.Next:], values)
}

// budget returns the outcome of a run that has no steps left.
func (r *run) budget() api.Outcome {
	at := r.block().End.At
	if r.Next < r.block().Until {
		at = r.code.Insts[r.Next].At
	}
	return api.Outcome{Kind: api.OutBudget, At: at, N: r.Block}
}
