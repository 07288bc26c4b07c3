package heap

import (
	"slices"

	"formfinder/api"
	"formfinder/bits"
)

// all reports whether something holds for each element of a list.
func all[T any](l []T, holds func(T) bool) bool {
	return !slices.ContainsFunc(l, func(x T) bool { return !holds(x) })
}

// validObject reports whether an object, released or not, may be among objects.
func validObject(o api.Obj) bool {
	return len(o.Cells) <= api.MaxCells && all(o.Cells, validCell)
}

// validCell reports whether an object may have a cell.
func validCell(c api.Cell) bool {
	return bits.Valid(bitsOf(c)) && (c.Set || c.V == 0)
}

// validWidth reports whether a cell may have a width.
func validWidth(w int) bool {
	return validCell(api.Cell{W: w})
}

// bitsOf returns the bit vector in a cell.
func bitsOf(c api.Cell) api.Bits {
	return api.Bits{W: c.W, V: c.V}
}

// lowest returns the lowest w bits of v, for a valid width.
func lowest(w int, v uint64) uint64 {
	part, _ := bits.Part(api.Bits{W: api.MaxWidth, V: v}, 0, w)
	return part.V
}

// fresh returns an object none of whose cells was set.
func fresh(widths []int) api.Obj {
	cells := make([]api.Cell, len(widths))
	for i, w := range widths {
		cells[i].W = w
	}
	return api.Obj{Cells: cells}
}

// copyOf returns objects that share no memory with others.
func copyOf(l []api.Obj) []api.Obj {
	copied := make([]api.Obj, len(l))
	copy(copied, l)
	for i := range copied {
		copied[i].Cells = slices.Clone(l[i].Cells)
	}
	return copied
}
