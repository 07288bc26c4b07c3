package machine

import (
	"slices"
	"strconv"

	"formfinder/api"
	"formfinder/bits"
	"formfinder/heap"
)

// method does what an instruction does, and returns its value, which is 0 if it
// has none, or a fault. What it calls has no errors, as the code is valid.
type method func(i api.Inst) (uint64, error)

// fault is what an instruction cannot do.
type fault int

func (f fault) Error() string {
	return "fault " + strconv.Itoa(int(f))
}

// instructions returns the methods of a run by operators.
func (r *run) instructions() map[int]method {
	methods := map[int]method{
		api.OpConst: r.constant,
		api.OpNot:   r.not,
		api.OpZext:  r.zext,
		api.OpSext:  r.sext,
		api.OpPart:  r.part,
		api.OpJoin:  r.join,
		api.OpByte:  r.byteAt,
		api.OpLen:   r.length,
		api.OpParam: r.parameter,
		api.OpNew:   r.newArray,
		api.OpMake:  r.makeStruct,
		api.OpLoad:  r.load,
		api.OpPut:   r.put,
		api.OpFree:  r.free,
		api.OpEmit:  r.emit,
	}
	for op := api.OpAdd; op <= api.OpSlt; op++ {
		methods[op] = r.binary
	}
	return methods
}

// integer returns a value with its width.
func (r *run) integer(value int) api.Bits {
	return api.Bits{W: r.code.Insts[value].W, V: r.Vals[value]}
}

// object returns the number of the object that a value points to.
func (r *run) object(value int) int {
	return int(r.Vals[value])
}

func (r *run) constant(i api.Inst) (uint64, error) {
	return i.N, nil
}

func (r *run) binary(i api.Inst) (uint64, error) {
	result, _ := bits.Bin(i.Op, r.integer(i.A), r.integer(i.B))
	return result.V, nil
}

func (r *run) not(i api.Inst) (uint64, error) {
	result, _ := bits.Not(r.integer(i.A))
	return result.V, nil
}

func (r *run) zext(i api.Inst) (uint64, error) {
	result, _ := bits.Zext(r.integer(i.A), i.W)
	return result.V, nil
}

func (r *run) sext(i api.Inst) (uint64, error) {
	result, _ := bits.Sext(r.integer(i.A), i.W)
	return result.V, nil
}

func (r *run) part(i api.Inst) (uint64, error) {
	result, _ := bits.Part(r.integer(i.A), int(i.N), i.W)
	return result.V, nil
}

func (r *run) join(i api.Inst) (uint64, error) {
	result, _ := bits.Join(r.integer(i.A), r.integer(i.B))
	return result.V, nil
}

func (r *run) byteAt(i api.Inst) (uint64, error) {
	index := r.Vals[i.A]
	if index >= uint64(len(r.input)) {
		return 0, fault(api.FaultShort)
	}
	return uint64(r.input[index]), nil
}

func (r *run) length(api.Inst) (uint64, error) {
	return uint64(len(r.input)), nil
}

// parameter leaves the value that the parameter got when its block was entered.
func (r *run) parameter(api.Inst) (uint64, error) {
	return r.Vals[r.Next], nil
}

func (r *run) newArray(i api.Inst) (uint64, error) {
	// One cell too many is enough for the fault, of however many there would be.
	many := min(r.Vals[i.A], api.MaxCells+1)
	return r.create(slices.Repeat([]int{int(i.N)}, int(many)))
}

func (r *run) makeStruct(i api.Inst) (uint64, error) {
	return r.create(r.code.Structs[i.N])
}

// create returns the number of a new object with cells of some widths.
func (r *run) create(widths []int) (uint64, error) {
	objs, number, f, _ := heap.New(r.Objs, widths)
	return uint64(number), r.keep(objs, f)
}

func (r *run) load(i api.Inst) (uint64, error) {
	value, f, _ := heap.Load(r.Objs, r.object(i.A), r.Vals[i.B])
	return value.V, faultOf(f)
}

func (r *run) put(i api.Inst) (uint64, error) {
	objs, f, _ := heap.Put(r.Objs, r.object(i.A), r.Vals[i.B], r.Vals[i.C])
	return 0, r.keep(objs, f)
}

func (r *run) free(i api.Inst) (uint64, error) {
	objs, f, _ := heap.Free(r.Objs, r.object(i.A))
	return 0, r.keep(objs, f)
}

// keep makes objects those of the run, unless there is a fault instead of them.
func (r *run) keep(objs []api.Obj, f int) error {
	if f == 0 {
		r.Objs = objs
	}
	return faultOf(f)
}

// faultOf returns a fault of the memory as an error, if there is one.
func faultOf(f int) error {
	if f == 0 {
		return nil
	}
	return fault(f)
}

func (r *run) emit(i api.Inst) (uint64, error) {
	if len(r.Values) == api.MaxValues {
		return 0, fault(api.FaultSize)
	}
	value := r.integer(i.A)
	r.Values = append(r.Values, api.Value{Name: r.code.Names[i.N], W: value.W, V: value.V})
	return 0, nil
}
