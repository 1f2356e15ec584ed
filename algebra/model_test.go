package algebra_test

import (
	"math/big"
	"slices"
	"testing"

	"annalist/algebra"
	"annalist/api"
	"annalist/bag"
	"annalist/expr"
	"annalist/value"
)

var (
	null = api.Value{Kind: api.Null}
	no   = api.Value{Kind: api.Bool, N: 0}
	yes  = api.Value{Kind: api.Bool, N: 1}
)

func num(n int64) api.Value { return api.Value{Kind: api.Int, N: n} }

func text(s string) api.Value { return api.Value{Kind: api.Text, S: s} }

func vals(all ...api.Value) []api.Value { return all }

func ids(all ...int) []int { return all }

func row(v []api.Value, lineage ...int) api.Row { return api.Row{Vals: v, Lineage: lineage} }

// one returns a row with a single Int.
func one(n int64, lineage ...int) api.Row { return row(vals(num(n)), lineage...) }

func rows(all ...api.Row) []api.Row { return all }

func table(name string, kinds []int, all ...api.Row) api.RowTable {
	return api.RowTable{Type: api.TableType{Name: name, Kinds: kinds}, Rows: all}
}

// The constructors of the nodes, one for each kind.
func scan(name string) api.Node { return api.Node{Kind: api.RelScan, Table: name} }

func filter(a, pred int) api.Node { return api.Node{Kind: api.RelSelect, A: a, Pred: pred} }

func project(a int, exprs ...int) api.Node {
	return api.Node{Kind: api.RelProject, A: a, Exprs: exprs}
}

func join(a, b, pred int) api.Node {
	return api.Node{Kind: api.RelJoin, A: a, B: b, Pred: pred}
}

func leftJoin(a, b, pred int) api.Node {
	return api.Node{Kind: api.RelLeftJoin, A: a, B: b, Pred: pred}
}

func union(a, b int) api.Node { return api.Node{Kind: api.RelUnion, A: a, B: b} }

func except(a, b int) api.Node { return api.Node{Kind: api.RelExcept, A: a, B: b} }

func intersect(a, b int) api.Node { return api.Node{Kind: api.RelIntersect, A: a, B: b} }

func distinct(a int) api.Node { return api.Node{Kind: api.RelDistinct, A: a} }

func group(a int, keys []int, aggs ...api.Aggregate) api.Node {
	return api.Node{Kind: api.RelGroup, A: a, Exprs: keys, Aggs: aggs}
}

func aggregate(kind, arg int) api.Aggregate { return api.Aggregate{Kind: kind, Arg: arg} }

// The indexes of the expressions of all queries of these tests.
const (
	col0 = iota
	col1
	col2
	col3
	col4
	nothing // Null
	zero
	single
	letter
	always
	never
	col0Is1
	col1IsCol2
	col0IsCol2
	col0IsCol1
	last
	isLast // column 0 has the value of the last row of the largest table
	col0Less2
	col0Negated
	col0Plus1
	col1IsNull
	col1IsNullOr3
	mixed // has type Bool and the value Null
	badOp
	badConst
	badOperand
	badColumn
	badType
	exprCount
)

// expressions returns the expressions of all queries of these tests.
func expressions() []api.Expr {
	return []api.Expr{
		col0: {Op: api.OpColumn, Col: 0}, col1: {Op: api.OpColumn, Col: 1}, col2: {Op: api.OpColumn, Col: 2},
		col3: {Op: api.OpColumn, Col: 3}, col4: {Op: api.OpColumn, Col: 4},
		nothing: {Op: api.OpConst}, zero: {Op: api.OpConst, Const: num(0)}, single: {Op: api.OpConst, Const: num(1)},
		letter: {Op: api.OpConst, Const: text("a")}, always: {Op: api.OpConst, Const: yes}, never: {Op: api.OpConst, Const: no},
		col0Is1: {Op: api.OpEq, A: col0, B: single}, col1IsCol2: {Op: api.OpEq, A: col1, B: col2}, col0IsCol2: {Op: api.OpEq, A: col0, B: col2},
		col0IsCol1: {Op: api.OpEq, A: col0, B: col1}, last: {Op: api.OpConst, Const: num(api.MaxItems - 1)}, isLast: {Op: api.OpEq, A: col0, B: last},
		col0Less2: {Op: api.OpLess, A: col0, B: col2}, col0Negated: {Op: api.OpSub, A: zero, B: col0}, col0Plus1: {Op: api.OpAdd, A: col0, B: single},
		col1IsNull: {Op: api.OpIsNull, A: col1}, col1IsNullOr3: {Op: api.OpOr, A: col1IsNull, B: col3}, mixed: {Op: api.OpAdd, A: nothing, B: zero},
		badOp: {Op: 99}, badConst: {Op: api.OpConst, Const: api.Value{Kind: 4}}, badOperand: {Op: api.OpNot, A: badOperand},
		badColumn: {Op: api.OpColumn, Col: 1000}, badType: {Op: api.OpAdd, A: single, B: letter},
	}
}

// query returns a query over the common expressions.
func query(nodes ...api.Node) api.Query { return api.Query{Nodes: nodes, Exprs: expressions()} }

func typesOf(db []api.RowTable) []api.TableType {
	var types []api.TableType
	for _, x := range db {
		types = append(types, x.Type)
	}
	return types
}

// sameRows reports whether two slices have the same rows in the same order.
func sameRows(a, b []api.Row) bool {
	return slices.EqualFunc(a, b, func(x, y api.Row) bool {
		return slices.Equal(x.Vals, y.Vals) && slices.Equal(x.Lineage, y.Lineage)
	})
}

func checkCheck(t *testing.T, name string, q api.Query, tables []api.TableType, want []int, wantErr api.Errno) {
	t.Helper()
	if got, err := algebra.Check(q, tables); !slices.Equal(got, want) || err != wantErr {
		t.Fatalf("P9.1: %s: Check(%+v, %v) = %v, %d, want %v, %d", name, q.Nodes, tables, got, err, want, wantErr)
	}
}

func checkEval(t *testing.T, name string, q api.Query, db []api.RowTable, want []api.Row, wantErr api.Errno) {
	t.Helper()
	if got, err := algebra.Eval(q, db); !sameRows(got, want) || err != wantErr {
		t.Fatalf("P9.2: %s: Eval(%+v, %v) = %v, %d, want %v, %d", name, q.Nodes, db, got, err, want, wantErr)
	}
}

// checkError checks that both functions return an error.
func checkError(t *testing.T, name string, q api.Query, tables []api.TableType, wantErr api.Errno) {
	t.Helper()
	checkCheck(t, name, q, tables, nil, wantErr)
	var db []api.RowTable
	for _, x := range tables {
		db = append(db, api.RowTable{Type: x, Rows: rows(one(1, 1), row(nil, 2))})
	}
	checkEval(t, name, q, db, nil, wantErr)
}

// wantCheck is the definition of Check, except for the limits of the query.
func wantCheck(q api.Query, tables []api.TableType) ([][]int, api.Errno) {
	var columns [][]int
	for i := range q.Nodes {
		own, err := wantColumns(q, i, tables, columns)
		if err == api.OK && (len(own) == 0 || len(own) > api.MaxWidth) {
			err = api.ErrTooLong
		}
		if err != api.OK {
			return nil, err
		}
		columns = append(columns, own)
	}
	return columns, api.OK
}

// wantColumns applies all rules but the last one to the node at index i.
func wantColumns(q api.Query, i int, tables []api.TableType, columns [][]int) ([]int, api.Errno) {
	n := q.Nodes[i]
	binary := []int{api.RelJoin, api.RelLeftJoin, api.RelUnion, api.RelExcept, api.RelIntersect}
	unary := []int{api.RelSelect, api.RelProject, api.RelDistinct, api.RelGroup}
	isBinary, isUnary := slices.Contains(binary, n.Kind), slices.Contains(unary, n.Kind)
	if n.Kind == api.RelScan {
		at := slices.IndexFunc(tables, func(x api.TableType) bool { return x.Name == n.Table })
		if at < 0 {
			return nil, api.ErrName
		}
		return tables[at].Kinds, api.OK
	}
	if !isBinary && !isUnary {
		return nil, api.ErrSyntax
	}
	if n.A < 0 || n.A >= i || isBinary && (n.B < 0 || n.B >= i) {
		return nil, api.ErrRange
	}
	over := slices.Clone(columns[n.A])
	switch n.Kind {
	case api.RelJoin, api.RelLeftJoin:
		over = append(over, columns[n.B]...)
	case api.RelUnion, api.RelExcept, api.RelIntersect:
		return wantCommon(columns[n.A], columns[n.B])
	case api.RelDistinct:
		return over, api.OK
	case api.RelProject:
		return wantTypes(q.Exprs, n.Exprs, over)
	case api.RelGroup:
		return wantGroupColumns(q.Exprs, n, over)
	}
	kind, err := expr.Check(q.Exprs, n.Pred, over)
	if err == api.OK && kind != api.Bool && kind != api.Null {
		err = api.ErrType
	}
	return over, err
}

func wantTypes(exprs []api.Expr, roots, columns []int) ([]int, api.Errno) {
	var kinds []int
	for _, root := range roots {
		kind, err := expr.Check(exprs, root, columns)
		if err != api.OK {
			return nil, err
		}
		kinds = append(kinds, kind)
	}
	return kinds, api.OK
}

func wantGroupColumns(exprs []api.Expr, n api.Node, columns []int) ([]int, api.Errno) {
	kinds, err := wantTypes(exprs, n.Exprs, columns)
	if err != api.OK {
		return nil, err
	}
	wrong := api.OK
	for _, agg := range n.Aggs {
		kind := api.Int
		switch agg.Kind {
		case api.AggCount:
		case api.AggSum, api.AggMin, api.AggMax:
			if kind, err = expr.Check(exprs, agg.Arg, columns); err != api.OK {
				return nil, err
			}
			if agg.Kind == api.AggSum && kind != api.Int && kind != api.Null {
				wrong = api.ErrType
			}
			if agg.Kind == api.AggSum {
				kind = api.Int
			}
		default:
			return nil, api.ErrSyntax
		}
		kinds = append(kinds, kind)
	}
	return kinds, wrong
}

func wantCommon(a, b []int) ([]int, api.Errno) {
	if len(a) != len(b) {
		return nil, api.ErrType
	}
	var common []int
	for i := range a {
		if a[i] != b[i] && a[i] != api.Null && b[i] != api.Null {
			return nil, api.ErrType
		}
		if a[i] != api.Null {
			common = append(common, a[i])
		} else {
			common = append(common, b[i])
		}
	}
	return common, api.OK
}

// wantRows is the definition of the rows of the last node of a query whose nodes
// have the given columns. The rows of the other nodes are given.
func wantRows(q api.Query, columns [][]int, before [][]api.Row, db []api.RowTable) []api.Row {
	n := q.Nodes[len(before)]
	if n.Kind == api.RelScan {
		return db[slices.IndexFunc(db, func(x api.RowTable) bool { return x.Type.Name == n.Table })].Rows
	}
	a := before[n.A]
	var result []api.Row
	switch n.Kind {
	case api.RelSelect:
		return slices.DeleteFunc(slices.Clone(a), func(r api.Row) bool { return !wantTrue(q, n.Pred, r.Vals) })
	case api.RelProject:
		for _, r := range a {
			result = append(result, row(wantVals(q, n.Exprs, r), r.Lineage...))
		}
	case api.RelJoin, api.RelLeftJoin:
		for _, r := range a {
			partners := 0
			for _, s := range before[n.B] {
				if both := slices.Concat(r.Vals, s.Vals); wantTrue(q, n.Pred, both) {
					partners++
					result = append(result, row(both, bag.MergeLineage(r.Lineage, s.Lineage)...))
				}
			}
			if partners == 0 && n.Kind == api.RelLeftJoin {
				result = append(result, row(slices.Concat(r.Vals, slices.Repeat(vals(null), len(columns[n.B]))), r.Lineage...))
			}
		}
	case api.RelUnion:
		return slices.Concat(a, before[n.B])
	case api.RelExcept, api.RelIntersect:
		return wantSetOperation(n.Kind, a, before[n.B])
	case api.RelDistinct:
		for _, all := range wantClasses(a, func(r api.Row) []api.Value { return r.Vals }) {
			result = append(result, row(all[0].Vals, wantLineage(all)...))
		}
	case api.RelGroup:
		return wantGroups(q, n, a)
	}
	return result
}

func wantTrue(q api.Query, pred int, v []api.Value) bool {
	return expr.Eval(q.Exprs, pred, v) == yes
}

func wantVals(q api.Query, roots []int, r api.Row) []api.Value {
	var results []api.Value
	for _, root := range roots {
		results = append(results, expr.Eval(q.Exprs, root, r.Vals))
	}
	return results
}

// wantLineage merges the lineages of rows, one after the other.
func wantLineage(all []api.Row) []int {
	var merged []int
	for _, r := range all {
		merged = bag.MergeLineage(merged, r.Lineage)
	}
	return merged
}

// wantClasses collects the rows that agree in the values of a function.
func wantClasses(all []api.Row, of func(r api.Row) []api.Value) [][]api.Row {
	var classes [][]api.Row
	for _, r := range all {
		same := func(c []api.Row) bool { return value.CompareRows(of(c[0]), of(r)) == 0 }
		if i := slices.IndexFunc(classes, same); i >= 0 {
			classes[i] = append(classes[i], r)
		} else {
			classes = append(classes, rows(r))
		}
	}
	return classes
}

func wantSetOperation(kind int, a, b []api.Row) []api.Row {
	var result []api.Row
	for _, all := range wantClasses(slices.Concat(a, b), func(r api.Row) []api.Value { return r.Vals }) {
		m, n := bag.Multiplicity(a, all[0].Vals), bag.Multiplicity(b, all[0].Vals)
		times := min(m, n)
		if kind == api.RelExcept {
			times = max(0, m-n)
		}
		for range times {
			result = append(result, row(all[0].Vals, wantLineage(all)...))
		}
	}
	return result
}

func wantGroups(q api.Query, n api.Node, a []api.Row) []api.Row {
	classes := wantClasses(a, func(r api.Row) []api.Value { return wantVals(q, n.Exprs, r) })
	if len(n.Exprs) == 0 && len(a) == 0 {
		classes = [][]api.Row{nil}
	}
	var result []api.Row
	for _, all := range classes {
		var v []api.Value
		if len(n.Exprs) > 0 {
			v = wantVals(q, n.Exprs, all[0])
		}
		for _, agg := range n.Aggs {
			v = append(v, wantAggregate(q, agg, all))
		}
		result = append(result, row(v, wantLineage(all)...))
	}
	return result
}

func wantAggregate(q api.Query, agg api.Aggregate, all []api.Row) api.Value {
	if agg.Kind == api.AggCount {
		return num(int64(len(all)))
	}
	sum, ints, best := new(big.Int), 0, null
	for _, r := range all {
		v := expr.Eval(q.Exprs, agg.Arg, r.Vals)
		if v.Kind == api.Int {
			ints++
			sum.Add(sum, big.NewInt(v.N))
		}
		if v.Kind == api.Null {
			continue
		}
		if order := value.Compare(v, best); best == null || agg.Kind == api.AggMin && order < 0 || agg.Kind == api.AggMax && order > 0 {
			best = v
		}
	}
	if agg.Kind != api.AggSum {
		return best
	}
	if ints == 0 || !sum.IsInt64() {
		return null
	}
	return num(sum.Int64())
}

// pseudoRandom returns a function that returns numbers from 0 to n-1 in an order
// that is always the same.
func pseudoRandom() func(n int) int {
	state := uint64(9)
	return func(n int) int {
		state = state*6364136223846793005 + 1442695040888963407
		return int((state >> 33) % uint64(n))
	}
}

// shuffled returns the tables with their rows in another order.
func shuffled(db []api.RowTable, random func(n int) int) []api.RowTable {
	mixed := slices.Clone(db)
	for i := range mixed {
		all := slices.Clone(mixed[i].Rows)
		for j := range all {
			k := j + random(len(all)-j)
			all[j], all[k] = all[k], all[j]
		}
		mixed[i].Rows = all
	}
	return mixed
}
