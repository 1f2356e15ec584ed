package algebra

import (
	"slices"

	"annalist/api"
	"annalist/bag"
	"annalist/expr"
	"annalist/value"
)

// evaluation evaluates the nodes of a checked query one after the other. It has
// the rows of the nodes that were evaluated already. Rows are never modified,
// so that those of different nodes may share their values and lineages.
type evaluation struct {
	exprs   []api.Expr
	db      []api.RowTable
	columns [][]int
	rows    [][]api.Row
}

// evalNodes returns the rows of every node of a query whose nodes have the given
// columns.
func evalNodes(q api.Query, db []api.RowTable, columns [][]int) ([][]api.Row, api.Errno) {
	e := evaluation{exprs: q.Exprs, db: db, columns: columns}
	for _, node := range q.Nodes {
		rows := e.evalNode(node)
		if len(rows) > api.MaxItems {
			return nil, api.ErrFull
		}
		e.rows = append(e.rows, rows)
	}
	return e.rows, api.OK
}

// evalNode returns the rows of the node that follows the evaluated ones.
func (e evaluation) evalNode(node api.Node) []api.Row {
	switch node.Kind {
	case api.RelScan:
		return e.scan(node.Table)
	case api.RelSelect:
		return e.selection(node.Pred, e.rows[node.A])
	case api.RelProject:
		return e.project(node.Exprs, e.rows[node.A])
	case api.RelJoin, api.RelLeftJoin:
		return e.join(node)
	case api.RelUnion:
		return slices.Concat(e.rows[node.A], e.rows[node.B])
	case api.RelExcept:
		return combine(e.rows[node.A], e.rows[node.B], func(m, n int) int { return max(0, m-n) })
	case api.RelIntersect:
		return combine(e.rows[node.A], e.rows[node.B], func(m, n int) int { return min(m, n) })
	case api.RelGroup:
		return e.group(node, e.rows[node.A])
	}
	return distinct(e.rows[node.A])
}

// scan returns the rows of the first table with the given name.
func (e evaluation) scan(name string) []api.Row {
	for _, table := range e.db {
		if table.Type.Name == name {
			return table.Rows
		}
	}
	return nil
}

// holds reports whether a predicate is true for the values of a row.
func (e evaluation) holds(pred int, vals []api.Value) bool {
	truth := expr.Eval(e.exprs, pred, vals)
	return truth.Kind == api.Bool && truth.N == 1
}

// selection returns the rows for which a predicate is true.
func (e evaluation) selection(pred int, rows []api.Row) []api.Row {
	var selected []api.Row
	for _, row := range rows {
		if e.holds(pred, row.Vals) {
			selected = append(selected, row)
		}
	}
	return selected
}

// project returns the values of the expressions with the given indexes for
// every row.
func (e evaluation) project(roots []int, rows []api.Row) []api.Row {
	var projected []api.Row
	for _, row := range rows {
		projected = append(projected, api.Row{Vals: e.evalAll(roots, row.Vals), Lineage: row.Lineage})
	}
	return projected
}

// evalAll returns the values of the expressions with the given indexes.
func (e evaluation) evalAll(roots []int, vals []api.Value) []api.Value {
	var results []api.Value
	for _, root := range roots {
		results = append(results, expr.Eval(e.exprs, root, vals))
	}
	return results
}

// join returns the rows of a RelJoin or a RelLeftJoin.
func (e evaluation) join(node api.Node) []api.Row {
	var joined []api.Row
	for _, row := range e.rows[node.A] {
		pairs := e.pairs(node.Pred, row, e.rows[node.B])
		if len(pairs) == 0 && node.Kind == api.RelLeftJoin {
			nulls := make([]api.Value, len(e.columns[node.B]))
			pairs = []api.Row{{Vals: slices.Concat(row.Vals, nulls), Lineage: row.Lineage}}
		}
		joined = append(joined, pairs...)
		// Two inputs of the largest size have millions of pairs, but no more than
		// these are needed to tell that there are too many.
		if len(joined) > api.MaxItems {
			break
		}
	}
	return joined
}

// pairs returns a row joined with each of its partners.
func (e evaluation) pairs(pred int, row api.Row, others []api.Row) []api.Row {
	var pairs []api.Row
	// Most rows are no partners, so the memory of the joined values is used over
	// and over.
	vals := slices.Clone(row.Vals)
	for _, other := range others {
		vals = append(vals[:len(row.Vals)], other.Vals...)
		if e.holds(pred, vals) {
			pairs = append(pairs, api.Row{Vals: slices.Clone(vals), Lineage: bag.MergeLineage(row.Lineage, other.Lineage)})
		}
	}
	return pairs
}

// combine returns the rows of a set operation. A list of values that occurs m
// times in a and n times in b occurs times(m, n) times in the result.
func combine(a, b []api.Row, times func(m, n int) int) []api.Row {
	countInA := map[string]int{}
	for _, row := range a {
		countInA[value.Key(row.Vals)]++
	}
	var combined []api.Row
	for _, class := range classify(slices.Concat(a, b), ownVals) {
		m := countInA[value.Key(class.vals)]
		row := api.Row{Vals: class.vals, Lineage: class.lineage()}
		combined = append(combined, slices.Repeat([]api.Row{row}, times(m, len(class.rows)-m))...)
	}
	return combined
}

// distinct returns one row for each list of values.
func distinct(rows []api.Row) []api.Row {
	var different []api.Row
	for _, class := range classify(rows, ownVals) {
		different = append(different, api.Row{Vals: class.vals, Lineage: class.lineage()})
	}
	return different
}

// group returns the rows of a RelGroup.
func (e evaluation) group(node api.Node, rows []api.Row) []api.Row {
	keys := func(row api.Row) []api.Value { return e.evalAll(node.Exprs, row.Vals) }
	classes := classify(rows, keys)
	if len(classes) == 0 && len(node.Exprs) == 0 {
		classes = []class{{}}
	}
	var groups []api.Row
	for _, class := range classes {
		vals := class.vals
		for _, agg := range node.Aggs {
			vals = append(vals, e.aggregate(agg, class.rows))
		}
		groups = append(groups, api.Row{Vals: vals, Lineage: class.lineage()})
	}
	return groups
}

// class is a list of values and the rows that have them.
type class struct {
	vals []api.Value
	rows []api.Row
}

// classify divides rows into classes by the values that a function returns. The
// classes are in the order in which their first rows occur.
func classify(rows []api.Row, valsOf func(row api.Row) []api.Value) []class {
	var classes []class
	indexes := map[string]int{}
	for _, row := range rows {
		vals := valsOf(row)
		key := value.Key(vals)
		i, known := indexes[key]
		if !known {
			i = len(classes)
			indexes[key] = i
			classes = append(classes, class{vals: vals})
		}
		classes[i].rows = append(classes[i].rows, row)
	}
	return classes
}

// ownVals returns the values of a row.
func ownVals(row api.Row) []api.Value { return row.Vals }

// lineage returns the merged lineage of the rows of a class.
func (c class) lineage() []int {
	var all []int
	for _, row := range c.rows {
		all = append(all, row.Lineage...)
	}
	return bag.MergeLineage(all, nil)
}
