package machine

import (
	"slices"

	"formfinder/api"
)

// sameRun reports whether two runs are equal; a nil slice equals an empty one.
func sameRun(a, b api.Machine) bool {
	return a.Block == b.Block && a.Next == b.Next && a.Steps == b.Steps &&
		slices.Equal(a.Vals, b.Vals) &&
		slices.EqualFunc(a.Objs, b.Objs, sameObject) &&
		slices.Equal(a.Values, b.Values) &&
		sameOutcome(a.Out, b.Out)
}

func sameObject(a, b api.Obj) bool {
	return a.Gone == b.Gone && slices.Equal(a.Cells, b.Cells)
}

func sameOutcome(a, b api.Outcome) bool {
	return a.Kind == b.Kind && a.Code == b.Code && a.At == b.At && a.N == b.N &&
		slices.Equal(a.Values, b.Values)
}
