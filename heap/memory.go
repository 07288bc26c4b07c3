package heap

import "formfinder/api"

// trouble is why a call has no other results: an error, or a fault.
type trouble struct {
	err   api.Errno
	fault int
}

// memory is the objects that result from a call, or its trouble.
type memory struct {
	trouble
	objs []api.Obj
}

// find returns a copy of objects, which may be changed, with a pointer to one of
// them; or the trouble, if there is no such object, or it is released.
func find(l []api.Obj, obj int) (memory, *api.Obj) {
	if !Valid(l) || obj < 0 || obj >= len(l) {
		return memory{trouble: trouble{err: api.ErrArg}}, nil
	}
	if l[obj].Gone {
		return memory{trouble: trouble{fault: api.FaultGone}}, nil
	}
	m := memory{objs: copyOf(l)}
	return m, &m.objs[obj]
}

// withObject returns the objects after an action on one of them, or the trouble;
// the action returns its fault.
func withObject(l []api.Obj, obj int, act func(*api.Obj) int) memory {
	m, o := find(l, obj)
	if o == nil {
		return m
	}
	if fault := act(o); fault != 0 {
		return memory{trouble: trouble{fault: fault}}
	}
	return m
}

// withCell returns the objects after an action on a cell of one of them, or the
// trouble; the action returns its fault.
func withCell(l []api.Obj, obj int, k uint64, act func(*api.Cell) int) memory {
	return withObject(l, obj, func(o *api.Obj) int {
		if k >= uint64(len(o.Cells)) {
			return api.FaultOut
		}
		return act(&o.Cells[k])
	})
}
