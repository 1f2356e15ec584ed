package algebra

import (
	"math/bits"
	"slices"

	"annalist/api"
	"annalist/expr"
	"annalist/value"
)

// aggregate returns the value of an aggregate over the rows of a group.
func (e evaluation) aggregate(agg api.Aggregate, rows []api.Row) api.Value {
	if agg.Kind == api.AggCount {
		return api.Value{Kind: api.Int, N: int64(len(rows))}
	}
	var args []api.Value
	for _, row := range rows {
		if arg := expr.Eval(e.exprs, agg.Arg, row.Vals); arg.Kind != api.Null {
			args = append(args, arg)
		}
	}
	if len(args) == 0 {
		return api.Value{Kind: api.Null}
	}
	switch agg.Kind {
	case api.AggMin:
		return slices.MinFunc(args, value.Compare)
	case api.AggMax:
		return slices.MaxFunc(args, value.Compare)
	}
	return sum(args)
}

// sum returns the sum of the Int values, or Null if there is none or the sum
// does not fit in 64 bits.
func sum(args []api.Value) api.Value {
	var total wide
	found := false
	for _, arg := range args {
		if arg.Kind == api.Int {
			total = total.plus(arg.N)
			found = true
		}
	}
	n, fits := total.narrow()
	if !found || !fits {
		return api.Value{Kind: api.Null}
	}
	return api.Value{Kind: api.Int, N: n}
}

// wide is a number of 128 bits in two's complement. It holds the sum of any
// rows exactly, also where the sum of only the first ones does not fit in 64
// bits.
type wide struct{ high, low uint64 }

// plus returns the sum of a wide number and another one.
func (w wide) plus(n int64) wide {
	low, carry := bits.Add64(w.low, uint64(n), 0)
	// The upper half of n consists of copies of its sign bit.
	high, _ := bits.Add64(w.high, uint64(n>>63), carry)
	return wide{high: high, low: low}
}

// narrow returns the number and whether it fits in 64 bits.
func (w wide) narrow() (int64, bool) {
	n := int64(w.low)
	return n, w.high == uint64(n>>63)
}
