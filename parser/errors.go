package parser

import "formfinder/api"

// leaving is what a panic carries: how much of the source is left.
type leaving int

const (
	onePart    leaving = iota // the innermost statement, or the item
	allBlocks                 // all blocks that were begun
	everything                // the program: nothing more is read
)

// fail reports an error at the next token, and leaves the part that is read.
func (r *reader) fail(e api.Errno) {
	r.diags = append(r.diags, api.Diag{Err: e, At: r.here()})
	if len(r.diags) == api.MaxDiags {
		panic(everything)
	}
	panic(onePart)
}

// attempt reads a part, and reports whether it was read to its end. It is the
// end of a panic that leaves at most as much as most.
func (r *reader) attempt(read method, most leaving) (n api.Node, done bool) {
	depth := r.depth
	defer func() {
		reason := recover()
		if reason == nil {
			return
		}
		if left, known := reason.(leaving); !known || left > most {
			panic(reason)
		}
		// The results are zero still.
		r.depth = depth
	}()
	return read(r), true
}

// skipItem leaves out what is before the next item, or parse.
func (r *reader) skipItem() {
	for ; ; r.next++ {
		switch r.word() {
		case "struct", "func", "parse":
			return
		case theEnd:
			panic(everything)
		}
	}
}

// skipStatement leaves out the rest of a statement. Where no statement can go
// on, it leaves all blocks.
func (r *reader) skipStatement() {
	open := 0 // braces
skipping:
	for ; ; r.next++ {
		switch r.word() {
		case "struct", "func", "parse", theEnd:
			panic(allBlocks)
		case "{":
			open++
		case "}":
			if open == 0 {
				// It closes the block of the statement.
				return
			}
			open--
			if open == 0 && r.tokens[r.next+1].word != "else" {
				break skipping
			}
		case ";":
			if open == 0 {
				break skipping
			}
		}
	}
	r.next++
}
