package algebra_test

import (
	"math"
	"slices"
	"strconv"
	"testing"

	"annalist/algebra"
	"annalist/api"
)

// odd is no kind of values, but columns may have it.
const odd = 9

// tables are the types of the tables of these tests.
func tables() []api.TableType {
	return []api.TableType{
		{Name: "t", Kinds: ids(api.Int, api.Text)},
		{Name: "u", Kinds: ids(api.Int, api.Text, api.Bool)},
		{Name: "nulls", Kinds: ids(api.Null, api.Null)},
		{Name: "odds", Kinds: ids(odd, odd)},
		{Name: "swapped", Kinds: ids(api.Text, api.Int)},
		{Name: "bare"},
		{Name: "widest", Kinds: slices.Repeat(ids(api.Int, api.Text), api.MaxWidth/2)},
		{Name: "wider", Kinds: slices.Repeat(ids(api.Int), api.MaxWidth+1)},
		{Name: "narrow", Kinds: ids(api.Bool)},
		// These tables cannot be scanned, because others with their names precede
		// them.
		{Name: "t", Kinds: ids(api.Bool, api.Bool, api.Bool)},
		{Name: "bare", Kinds: ids(api.Int)},
	}
}

// illegalAt returns indexes that are no indexes of a slice of length i.
func illegalAt(i int) []int {
	return ids(-1, -2, i, i+1, i+100, 1<<32, -1<<32, math.MinInt, math.MaxInt)
}

// binaryNodes returns a node of each kind with two inputs.
func binaryNodes(a, b, pred int) []api.Node {
	return []api.Node{join(a, b, pred), leftJoin(a, b, pred), union(a, b), except(a, b), intersect(a, b)}
}

// unaryNodes returns a node of each kind with one input.
func unaryNodes(a, pred int) []api.Node {
	return []api.Node{filter(a, pred), project(a, single), distinct(a), group(a, nil, aggregate(api.AggCount, 0))}
}

func TestCheckOfColumns(t *testing.T) {
	tests := []struct {
		name  string
		nodes []api.Node
		want  []int
	}{
		{"scan", []api.Node{scan("u")}, ids(api.Int, api.Text, api.Bool)},
		{"scan of the first table of its name", []api.Node{scan("t")}, ids(api.Int, api.Text)},
		{"scan of odd columns", []api.Node{scan("odds")}, ids(odd, odd)},
		{"select", []api.Node{scan("u"), filter(0, col0Is1)}, ids(api.Int, api.Text, api.Bool)},
		{"distinct", []api.Node{scan("u"), distinct(0)}, ids(api.Int, api.Text, api.Bool)},
		{"project", []api.Node{scan("u"), project(0, col2, col0Is1, nothing, col0, col0)}, ids(api.Bool, api.Bool, api.Null, api.Int, api.Int)},
		{"join", []api.Node{scan("t"), scan("u"), join(1, 0, always)}, ids(api.Int, api.Text, api.Bool, api.Int, api.Text)},
		{"left join", []api.Node{scan("t"), scan("u"), leftJoin(0, 1, always)}, ids(api.Int, api.Text, api.Int, api.Text, api.Bool)},
		{"predicate over both inputs", []api.Node{scan("t"), scan("swapped"), join(0, 1, col1IsCol2)}, ids(api.Int, api.Text, api.Text, api.Int)},
		{"join with itself", []api.Node{scan("t"), leftJoin(0, 0, col0IsCol2)}, ids(api.Int, api.Text, api.Int, api.Text)},
		{"union", []api.Node{scan("t"), union(0, 0)}, ids(api.Int, api.Text)},
		{"group", []api.Node{scan("u"), group(0, ids(col1, col0Is1), aggregate(api.AggCount, 0), aggregate(api.AggMin, col2), aggregate(api.AggSum, col0), aggregate(api.AggMax, col1))},
			ids(api.Text, api.Bool, api.Int, api.Bool, api.Int, api.Text)},
		{"group with keys alone", []api.Node{scan("u"), group(0, ids(col2))}, ids(api.Bool)},
		{"group with aggregates alone", []api.Node{scan("u"), group(0, nil, aggregate(api.AggMax, col2))}, ids(api.Bool)},
		{"aggregates of Null", []api.Node{scan("nulls"), group(0, nil, aggregate(api.AggSum, col0), aggregate(api.AggMin, col0), aggregate(api.AggMax, nothing))}, ids(api.Int, api.Null, api.Null)},
		{"aggregates of odd columns", []api.Node{scan("odds"), group(0, nil, aggregate(api.AggMin, col0), aggregate(api.AggMax, col1))}, ids(odd, odd)},
		{"the last node counts", []api.Node{scan("t"), scan("u"), join(0, 1, always), scan("narrow")}, ids(api.Bool)},
		{"inputs used twice", []api.Node{scan("t"), project(0, col1), project(0, col0), join(1, 2, always), project(3, col1)}, ids(api.Int)},
	}
	for _, x := range tests {
		checkCheck(t, x.name, query(x.nodes...), tables(), x.want, api.OK)
	}
}

func TestCheckOfLimits(t *testing.T) {
	for _, n := range []int{1, 2, api.MaxNodes} {
		checkCheck(t, strconv.Itoa(n)+" nodes", query(slices.Repeat([]api.Node{scan("t")}, n)...), tables(), ids(api.Int, api.Text), api.OK)
	}
	checkError(t, "no nodes", query(), tables(), api.ErrTooLong)
	checkError(t, "no query", api.Query{}, nil, api.ErrTooLong)
	checkError(t, "too many nodes", query(slices.Repeat([]api.Node{scan("t")}, api.MaxNodes+1)...), tables(), api.ErrTooLong)
	for _, n := range []int{0, 1, api.MaxExprs} {
		q := api.Query{Nodes: []api.Node{scan("t")}, Exprs: make([]api.Expr, n)}
		checkCheck(t, strconv.Itoa(n)+" expressions", q, tables(), ids(api.Int, api.Text), api.OK)
	}
	long := make([]api.Expr, api.MaxExprs+1)
	checkError(t, "too many expressions", api.Query{Nodes: []api.Node{scan("t")}, Exprs: long}, tables(), api.ErrTooLong)
	// The limits of the query are checked ahead of all nodes.
	for _, bad := range []api.Node{{Kind: 99}, distinct(7), scan("x"), filter(0, badOp)} {
		checkError(t, "too many expressions and a wrong node", api.Query{Nodes: []api.Node{bad}, Exprs: long}, tables(), api.ErrTooLong)
		checkError(t, "too many wrong nodes", query(slices.Repeat([]api.Node{bad}, api.MaxNodes+1)...), tables(), api.ErrTooLong)
	}
}

func TestCheckOfWidths(t *testing.T) {
	widest := slices.Repeat(ids(api.Int, api.Text), api.MaxWidth/2)
	ints := func(n int) []int { return slices.Repeat(ids(api.Int), n) }
	counts := func(n int) []api.Aggregate { return slices.Repeat([]api.Aggregate{aggregate(api.AggCount, 0)}, n) }
	legal := []struct {
		nodes []api.Node
		want  []int
	}{
		{[]api.Node{scan("widest")}, widest},
		{[]api.Node{scan("widest"), filter(0, always)}, widest},
		{[]api.Node{scan("widest"), distinct(0)}, widest},
		{[]api.Node{scan("widest"), union(0, 0)}, widest},
		{[]api.Node{scan("t"), project(0, slices.Repeat(ids(col0), api.MaxWidth)...)}, ints(api.MaxWidth)},
		{[]api.Node{scan("t"), project(0, slices.Repeat(ids(col0), api.MaxWidth-2)...), join(1, 0, always)}, append(ints(api.MaxWidth-1), api.Text)},
		{[]api.Node{scan("t"), project(0, slices.Repeat(ids(col0), api.MaxWidth-2)...), leftJoin(1, 0, always)}, append(ints(api.MaxWidth-1), api.Text)},
		{[]api.Node{scan("t"), group(0, slices.Repeat(ids(col0), api.MaxWidth))}, ints(api.MaxWidth)},
		{[]api.Node{scan("t"), group(0, nil, counts(api.MaxWidth)...)}, ints(api.MaxWidth)},
		{[]api.Node{scan("t"), group(0, slices.Repeat(ids(col0), 60), counts(4)...)}, ints(api.MaxWidth)},
	}
	for _, x := range legal {
		checkCheck(t, "64 columns", query(x.nodes...), tables(), x.want, api.OK)
	}
	tooWide := [][]api.Node{
		{scan("wider")},
		{scan("t"), project(0, slices.Repeat(ids(col0), api.MaxWidth+1)...)},
		{scan("t"), project(0, slices.Repeat(ids(col0), api.MaxWidth-1)...), join(1, 0, always)},
		{scan("t"), project(0, slices.Repeat(ids(col0), api.MaxWidth-1)...), leftJoin(0, 1, always)},
		{scan("widest"), join(0, 0, always)},
		{scan("t"), group(0, slices.Repeat(ids(col0), api.MaxWidth+1))},
		{scan("t"), group(0, nil, counts(api.MaxWidth+1)...)},
		{scan("t"), group(0, slices.Repeat(ids(col0), 60), counts(5)...)},
		// Nodes that reduce the columns again.
		{scan("wider"), project(0, col0)},
		{scan("widest"), join(0, 0, always), project(1, col0)},
	}
	for _, nodes := range tooWide {
		checkError(t, "65 columns or more", query(nodes...), tables(), api.ErrTooLong)
	}
	for _, nodes := range [][]api.Node{{scan("bare")}, {scan("t"), project(0)}, {scan("t"), group(0, nil)}, {scan("bare"), scan("t")}, {scan("bare"), group(0, nil, counts(1)...)}} {
		checkError(t, "no columns", query(nodes...), tables(), api.ErrTooLong)
	}
}

// The predicate of a join sees all columns, even if these are too many.
func TestCheckOfWideJoins(t *testing.T) {
	last := func(cols, kind int) api.Query {
		exprs := []api.Expr{{Op: api.OpColumn, Col: cols}, {Op: api.OpConst, Const: api.Value{Kind: kind}}, {Op: api.OpEq, A: 0, B: 1}}
		return api.Query{Nodes: []api.Node{scan("widest"), scan("widest"), join(0, 1, 2)}, Exprs: exprs}
	}
	checkError(t, "column 127 of 128", last(127, api.Text), tables(), api.ErrTooLong)
	checkError(t, "column 127 has another type", last(127, api.Int), tables(), api.ErrType)
	checkError(t, "column 128 of 128", last(128, api.Text), tables(), api.ErrRange)
	for _, kind := range []int{api.RelJoin, api.RelLeftJoin} {
		for pred, want := range map[int]api.Errno{letter: api.ErrType, badOp: api.ErrSyntax, badColumn: api.ErrRange, nothing: api.ErrTooLong} {
			checkError(t, "too many columns and a wrong predicate", query(scan("widest"), api.Node{Kind: kind, Pred: pred}), tables(), want)
		}
	}
}

func TestCheckOfKinds(t *testing.T) {
	for _, kind := range []int{0, -1, -5, 11, 12, 99, 1<<8 + 1, 1<<32 + api.RelScan, 1<<32 + api.RelDistinct, math.MinInt, math.MaxInt} {
		node := api.Node{Kind: kind, Table: "t"}
		checkError(t, "unknown kind", query(node), tables(), api.ErrSyntax)
		checkError(t, "unknown kind", query(scan("t"), node), tables(), api.ErrSyntax)
		wrong := api.Node{Kind: kind, A: 7, B: -1, Pred: badOp, Table: "x", Exprs: ids(badOperand), Aggs: []api.Aggregate{{}}}
		checkError(t, "unknown kind and illegal inputs", query(scan("t"), wrong), tables(), api.ErrSyntax)
	}
}

func TestCheckOfInputs(t *testing.T) {
	inputs := []api.Node{scan("t"), scan("t"), scan("t")}
	at := len(inputs)
	// The nodes that follow show that an index is not legal merely because the
	// query has such a node.
	with := func(n api.Node) api.Query { return query(append(slices.Clone(inputs), n, scan("t"), scan("t"))...) }
	for _, pred := range []int{always, badOp, letter} {
		for _, bad := range illegalAt(at) {
			for _, n := range unaryNodes(bad, pred) {
				checkError(t, "illegal input", with(n), tables(), api.ErrRange)
			}
			for good := range at {
				for _, n := range append(binaryNodes(good, bad, pred), binaryNodes(bad, good, pred)...) {
					checkError(t, "illegal input", with(n), tables(), api.ErrRange)
				}
			}
		}
	}
	for a := range at {
		for b := range at {
			for _, n := range append(binaryNodes(a, b, always), unaryNodes(a, always)...) {
				if _, err := algebra.Check(with(n), tables()); err != api.OK {
					t.Errorf("P9.1: Check of %+v at %d = %d", n, at, err)
				}
			}
		}
	}
	for _, n := range append(unaryNodes(0, always), binaryNodes(0, 0, always)...) {
		checkError(t, "the first node has no inputs", query(n), tables(), api.ErrRange)
	}
	checkError(t, "illegal input and a wrong expression", with(project(3, badOp)), tables(), api.ErrRange)
	checkError(t, "illegal input and no columns", with(project(3)), tables(), api.ErrRange)
	checkError(t, "illegal input and a wrong aggregate", with(group(-1, nil, api.Aggregate{})), tables(), api.ErrRange)
}

func TestCheckOfTables(t *testing.T) {
	for _, name := range []string{"", "x", "T", "tt", "t ", " t", "nul", "t\x00", "wides"} {
		checkError(t, "no such table", query(scan(name)), tables(), api.ErrName)
		checkError(t, "no such table in an unused node", query(scan(name), scan("t")), tables(), api.ErrName)
	}
	checkError(t, "no tables", query(scan("t")), nil, api.ErrName)
	for _, name := range []string{"", "T", "t\x00", "\xff", "a name that is longer than an identifier"} {
		types := append(tables(), api.TableType{Name: name, Kinds: ids(api.Bool)}, api.TableType{Name: name, Kinds: ids(api.Int)})
		checkCheck(t, "unusual name", query(scan(name)), types, ids(api.Bool), api.OK)
	}
	checkError(t, "only the first table of a name counts", query(scan("bare")), tables(), api.ErrTooLong)
}

func TestCheckOfPredicates(t *testing.T) {
	wrong := map[int]api.Errno{
		col0: api.ErrType, col1: api.ErrType, single: api.ErrType, letter: api.ErrType, col0Negated: api.ErrType, mixed: api.ErrType,
		badOp: api.ErrSyntax, badConst: api.ErrSyntax, badOperand: api.ErrRange, badColumn: api.ErrRange, badType: api.ErrType,
		-1: api.ErrRange, exprCount: api.ErrRange, math.MinInt: api.ErrRange, 1 << 32: api.ErrRange,
	}
	for pred, want := range wrong {
		for _, n := range []api.Node{filter(0, pred), join(0, 0, pred), leftJoin(0, 0, pred)} {
			checkError(t, "predicate "+strconv.Itoa(pred), query(scan("t"), n), tables(), want)
		}
	}
	for _, pred := range ids(always, never, nothing, col0Is1, col1IsNull) {
		checkCheck(t, "predicate", query(scan("t"), filter(0, pred)), tables(), ids(api.Int, api.Text), api.OK)
		for _, n := range []api.Node{join(0, 0, pred), leftJoin(0, 0, pred)} {
			checkCheck(t, "predicate", query(scan("t"), n), tables(), ids(api.Int, api.Text, api.Int, api.Text), api.OK)
		}
	}
	// Columns as predicates.
	checkCheck(t, "Bool column", query(scan("narrow"), filter(0, col0)), tables(), ids(api.Bool), api.OK)
	checkCheck(t, "Null column", query(scan("nulls"), filter(0, col0)), tables(), ids(api.Null, api.Null), api.OK)
	checkError(t, "odd column", query(scan("odds"), filter(0, col0)), tables(), api.ErrType)
	checkError(t, "a select has no column 2", query(scan("t"), filter(0, col0IsCol2)), tables(), api.ErrRange)
	checkCheck(t, "a join has a column 2", query(scan("t"), join(0, 0, col0IsCol2)), tables(), ids(api.Int, api.Text, api.Int, api.Text), api.OK)
	checkError(t, "types of the columns of B", query(scan("t"), scan("swapped"), join(0, 1, col0IsCol2)), tables(), api.ErrType)
	checkError(t, "types of the columns of A", query(scan("t"), join(0, 0, col1IsCol2)), tables(), api.ErrType)
}

// The first wrong expression of a list counts.
func TestCheckOfExpressionLists(t *testing.T) {
	tests := []struct {
		list []int
		err  api.Errno
	}{
		{ids(badOp), api.ErrSyntax}, {ids(badConst), api.ErrSyntax}, {ids(badOperand), api.ErrRange}, {ids(badColumn), api.ErrRange}, {ids(badType), api.ErrType},
		{ids(-1), api.ErrRange}, {ids(exprCount), api.ErrRange}, {ids(math.MaxInt), api.ErrRange}, {ids(col2), api.ErrRange},
		{ids(col0, badOp), api.ErrSyntax}, {ids(col0, badColumn, badOp), api.ErrRange}, {ids(badType, badColumn, badOp), api.ErrType},
		{ids(badOp, badColumn), api.ErrSyntax}, {ids(badOp, badType), api.ErrSyntax}, {ids(badColumn, badType), api.ErrRange},
		// The error of an expression counts even if there are too many.
		{append(slices.Repeat(ids(col0), api.MaxWidth), badColumn), api.ErrRange}, {append(slices.Repeat(ids(col0), 300), badOp), api.ErrSyntax},
	}
	for _, x := range tests {
		checkError(t, "wrong expression", query(scan("t"), project(0, x.list...)), tables(), x.err)
		checkError(t, "wrong key", query(scan("t"), group(0, x.list)), tables(), x.err)
		// The keys are checked ahead of the aggregates.
		for _, agg := range []api.Aggregate{aggregate(99, 0), aggregate(api.AggMin, badOp), aggregate(api.AggMin, badColumn), aggregate(api.AggSum, letter)} {
			checkError(t, "wrong key and wrong aggregate", query(scan("t"), group(0, x.list, agg)), tables(), x.err)
		}
	}
}

func TestCheckOfAggregates(t *testing.T) {
	unknown := []int{0, -1, 5, 6, 99, 1<<32 + api.AggCount, 1<<32 + api.AggMin, math.MinInt, math.MaxInt}
	for _, kind := range unknown {
		for _, arg := range ids(col0, badOp, badColumn, badType, -1) {
			checkError(t, "unknown aggregate", query(scan("t"), group(0, nil, aggregate(kind, arg))), tables(), api.ErrSyntax)
			checkError(t, "unknown aggregate", query(scan("t"), group(0, ids(col0), aggregate(api.AggMax, col1), aggregate(kind, arg))), tables(), api.ErrSyntax)
		}
	}
	wrong := map[int]api.Errno{
		badOp: api.ErrSyntax, badConst: api.ErrSyntax, badOperand: api.ErrRange, badColumn: api.ErrRange, badType: api.ErrType,
		-1: api.ErrRange, exprCount: api.ErrRange, math.MinInt: api.ErrRange, col2: api.ErrRange,
	}
	for arg, want := range wrong {
		for _, kind := range ids(api.AggSum, api.AggMin, api.AggMax) {
			checkError(t, "wrong argument", query(scan("t"), group(0, nil, aggregate(kind, arg))), tables(), want)
		}
		checkCheck(t, "a count has no argument", query(scan("t"), group(0, nil, aggregate(api.AggCount, arg))), tables(), ids(api.Int), api.OK)
	}
	for arg, accepted := range map[int]bool{col0: true, nothing: true, mixed: true, col0Plus1: true, col1: false, letter: false, always: false, col0Is1: false} {
		if q := query(scan("t"), group(0, nil, aggregate(api.AggSum, arg))); accepted {
			checkCheck(t, "sum", q, tables(), ids(api.Int), api.OK)
		} else {
			checkError(t, "sum", q, tables(), api.ErrType)
		}
	}
	checkError(t, "sum of an odd column", query(scan("odds"), group(0, nil, aggregate(api.AggSum, col0))), tables(), api.ErrType)
}

func TestCheckOfTheOrderOfAggregates(t *testing.T) {
	tests := []struct {
		aggs []api.Aggregate
		err  api.Errno
	}{
		{[]api.Aggregate{aggregate(99, 0), aggregate(api.AggMin, badColumn)}, api.ErrSyntax},
		{[]api.Aggregate{aggregate(api.AggMin, badColumn), aggregate(99, 0)}, api.ErrRange},
		{[]api.Aggregate{aggregate(api.AggMax, badType), aggregate(api.AggMin, badColumn), aggregate(99, 0)}, api.ErrType},
		{[]api.Aggregate{aggregate(api.AggMin, badOp), aggregate(api.AggSum, badColumn)}, api.ErrSyntax},
		// The type of a sum's argument is checked after all of these.
		{[]api.Aggregate{aggregate(api.AggSum, letter), aggregate(99, 0)}, api.ErrSyntax},
		{[]api.Aggregate{aggregate(api.AggSum, letter), aggregate(api.AggMin, badColumn)}, api.ErrRange},
		{[]api.Aggregate{aggregate(api.AggSum, letter), aggregate(api.AggSum, badConst)}, api.ErrSyntax},
		{[]api.Aggregate{aggregate(api.AggSum, letter), aggregate(api.AggSum, col0)}, api.ErrType},
		{[]api.Aggregate{aggregate(api.AggSum, col0), aggregate(api.AggCount, badOp), aggregate(api.AggSum, always)}, api.ErrType},
		// It is checked ahead of the number of columns.
		{append(slices.Repeat([]api.Aggregate{aggregate(api.AggCount, 0)}, api.MaxWidth), aggregate(api.AggSum, letter)), api.ErrType},
		{append(slices.Repeat([]api.Aggregate{aggregate(api.AggCount, 0)}, api.MaxWidth), aggregate(99, 0)), api.ErrSyntax},
	}
	for _, x := range tests {
		checkError(t, "wrong aggregates", query(scan("t"), group(0, nil, x.aggs...)), tables(), x.err)
		checkError(t, "wrong aggregates", query(scan("t"), group(0, ids(col0, col1), x.aggs...)), tables(), x.err)
	}
}

func TestCheckOfSetOperations(t *testing.T) {
	kinds := ids(api.Null, api.Int, api.Text, api.Bool, odd, -1)
	lists := [][]int{ids(api.Int), ids(api.Int, api.Int, api.Int)}
	for _, a := range kinds {
		for _, b := range kinds {
			lists = append(lists, ids(a, b))
		}
	}
	for _, a := range lists {
		for _, b := range lists {
			want, err := wantCommon(a, b)
			types := []api.TableType{{Name: "a", Kinds: a}, {Name: "b", Kinds: b}}
			for _, n := range binaryNodes(0, 1, always)[2:] {
				if q := query(scan("a"), scan("b"), n); err == api.OK {
					checkCheck(t, "set operation", q, types, want, api.OK)
				} else {
					checkError(t, "set operation", q, types, err)
				}
			}
		}
	}
	// Different columns in any position are found.
	widest := tables()[6].Kinds
	for i := range widest {
		other := slices.Clone(widest)
		other[i] = api.Bool
		types := []api.TableType{{Name: "a", Kinds: widest}, {Name: "b", Kinds: other}}
		checkError(t, "set operation", query(scan("a"), scan("b"), union(0, 1)), types, api.ErrType)
		other[i] = api.Null
		checkCheck(t, "set operation", query(scan("a"), scan("b"), union(1, 0)), types, widest, api.OK)
		checkError(t, "set operation", query(scan("a"), project(0, col0), except(0, 1)), types, api.ErrType)
	}
}

// The nodes are checked in order, also those that do not contribute to the
// result.
func TestCheckOfTheOrderOfNodes(t *testing.T) {
	wrong := []struct {
		node api.Node
		err  api.Errno
	}{
		{api.Node{Kind: 99}, api.ErrSyntax}, {distinct(70), api.ErrRange}, {scan("x"), api.ErrName}, {filter(0, badOp), api.ErrSyntax},
		{join(0, 1, badColumn), api.ErrRange}, {project(0, badType), api.ErrType}, {filter(0, letter), api.ErrType}, {union(0, 1), api.ErrType},
		{group(0, nil, aggregate(99, 0)), api.ErrSyntax}, {group(0, nil, aggregate(api.AggSum, col1)), api.ErrType}, {project(0), api.ErrTooLong}, {scan("wider"), api.ErrTooLong},
	}
	for _, x := range wrong {
		checkError(t, "last node", query(scan("t"), scan("u"), x.node), tables(), x.err)
		checkError(t, "unused node", query(scan("t"), scan("u"), x.node, scan("t")), tables(), x.err)
		checkError(t, "node that is used", query(scan("t"), scan("u"), x.node, distinct(2)), tables(), x.err)
		for _, y := range wrong {
			checkError(t, "first of two wrong nodes", query(scan("t"), scan("u"), x.node, y.node), tables(), x.err)
			checkError(t, "first of two wrong nodes", query(scan("t"), scan("u"), x.node, scan("u"), y.node, scan("u")), tables(), x.err)
		}
	}
}

// A field that a node does not use has no effect, whatever it contains.
func TestUnusedFields(t *testing.T) {
	db := []api.RowTable{
		table("t", ids(api.Int, api.Text), row(vals(num(1), text("a")), 1), row(vals(num(1), text("b")), 2)),
		table("u", ids(api.Int, api.Text), row(vals(num(1), text("a")), 3)),
	}
	noise := api.Node{A: 77, B: -77, Pred: badOp, Table: "x", Exprs: ids(badColumn, -1), Aggs: []api.Aggregate{{Kind: 77, Arg: -77}}}
	fields := func(set func(n *api.Node)) api.Node {
		n := noise
		set(&n)
		return n
	}
	tests := []struct{ plain, noisy api.Node }{
		{scan("t"), fields(func(n *api.Node) { n.Kind, n.Table = api.RelScan, "t" })},
		{filter(0, col0Is1), fields(func(n *api.Node) { n.Kind, n.A, n.Pred = api.RelSelect, 0, col0Is1 })},
		{project(0, col1), fields(func(n *api.Node) { n.Kind, n.A, n.Exprs = api.RelProject, 0, ids(col1) })},
		{join(0, 1, col0IsCol2), fields(func(n *api.Node) { n.Kind, n.A, n.B, n.Pred = api.RelJoin, 0, 1, col0IsCol2 })},
		{leftJoin(0, 1, col0IsCol2), fields(func(n *api.Node) { n.Kind, n.A, n.B, n.Pred = api.RelLeftJoin, 0, 1, col0IsCol2 })},
		{union(0, 1), fields(func(n *api.Node) { n.Kind, n.A, n.B = api.RelUnion, 0, 1 })},
		{except(0, 1), fields(func(n *api.Node) { n.Kind, n.A, n.B = api.RelExcept, 0, 1 })},
		{intersect(0, 1), fields(func(n *api.Node) { n.Kind, n.A, n.B = api.RelIntersect, 0, 1 })},
		{distinct(0), fields(func(n *api.Node) { n.Kind, n.A = api.RelDistinct, 0 })},
		{group(0, ids(col0), aggregate(api.AggCount, -77)), fields(func(n *api.Node) {
			n.Kind, n.A, n.Exprs, n.Aggs = api.RelGroup, 0, ids(col0), []api.Aggregate{aggregate(api.AggCount, badOp)}
		})},
	}
	for _, x := range tests {
		plain, noisy := query(scan("t"), scan("u"), x.plain), query(scan("t"), scan("u"), x.noisy)
		columns, err := algebra.Check(plain, typesOf(db))
		all, evalErr := algebra.Eval(plain, db)
		if err != api.OK || evalErr != api.OK {
			t.Fatalf("P9.1, P9.2: the errors of %+v are %d, %d", x.plain, err, evalErr)
		}
		checkCheck(t, "unused fields", noisy, typesOf(db), columns, api.OK)
		checkEval(t, "unused fields", noisy, db, all, api.OK)
	}
}

// The columns of a result share no memory with the types of the tables.
func TestCheckIsNewMemory(t *testing.T) {
	types := tables()
	for _, n := range append(unaryNodes(0, always), append(binaryNodes(0, 0, always), scan("t"))...) {
		nodes := []api.Node{scan("t"), n}
		columns, err := algebra.Check(query(nodes...), types)
		if err != api.OK {
			t.Fatalf("P9.1: Check(%+v) = %d", nodes, err)
		}
		for i := range columns[:cap(columns)] {
			columns[:cap(columns)][i] = -7
		}
		if !slices.EqualFunc(types, tables(), func(a, b api.TableType) bool { return a.Name == b.Name && slices.Equal(a.Kinds, b.Kinds) }) {
			t.Fatalf("P9.1: a change of the columns of %+v changed the tables to %v", nodes, types)
		}
	}
}
