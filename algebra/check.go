package algebra

import (
	"slices"

	"annalist/api"
	"annalist/expr"
)

// unknown is the number of inputs of an operator that does not exist.
const unknown = -1

// checker checks the nodes of a query one after the other. It has the columns
// of the nodes that were checked already.
type checker struct {
	exprs   []api.Expr
	tables  []api.TableType
	columns [][]int
}

// checkNodes returns the columns of every node of a query.
func checkNodes(q api.Query, tables []api.TableType) ([][]int, api.Errno) {
	if len(q.Nodes) == 0 || len(q.Nodes) > api.MaxNodes || len(q.Exprs) > api.MaxExprs {
		return nil, api.ErrTooLong
	}
	c := checker{exprs: q.Exprs, tables: tables}
	for _, node := range q.Nodes {
		columns, err := c.checkNode(node)
		if err != api.OK {
			return nil, err
		}
		c.columns = append(c.columns, columns)
	}
	return c.columns, api.OK
}

// inputs returns the number of inputs of an operator, or unknown. A single
// input is A.
func inputs(kind int) int {
	switch kind {
	case api.RelScan:
		return 0
	case api.RelSelect, api.RelProject, api.RelDistinct, api.RelGroup:
		return 1
	case api.RelJoin, api.RelLeftJoin, api.RelUnion, api.RelExcept, api.RelIntersect:
		return 2
	}
	return unknown
}

// checkNode returns the columns of the node that follows the checked ones.
func (c checker) checkNode(node api.Node) ([]int, api.Errno) {
	count := inputs(node.Kind)
	if count == unknown {
		return nil, api.ErrSyntax
	}
	if count >= 1 && !c.precedes(node.A) || count == 2 && !c.precedes(node.B) {
		return nil, api.ErrRange
	}
	columns, err := c.columnsOf(node)
	if err != api.OK {
		return nil, err
	}
	if len(columns) == 0 || len(columns) > api.MaxWidth {
		return nil, api.ErrTooLong
	}
	return columns, api.OK
}

// precedes reports whether i is the index of a node that was checked already.
func (c checker) precedes(i int) bool {
	return 0 <= i && i < len(c.columns)
}

// columnsOf returns the columns of a node whose inputs precede it, however many
// columns these are.
func (c checker) columnsOf(node api.Node) ([]int, api.Errno) {
	switch node.Kind {
	case api.RelScan:
		return c.columnsOfTable(node.Table)
	case api.RelSelect:
		return c.checkPred(node.Pred, c.columns[node.A])
	case api.RelProject:
		return c.types(node.Exprs, c.columns[node.A])
	case api.RelJoin, api.RelLeftJoin:
		return c.checkPred(node.Pred, slices.Concat(c.columns[node.A], c.columns[node.B]))
	case api.RelUnion, api.RelExcept, api.RelIntersect:
		return commonColumns(c.columns[node.A], c.columns[node.B])
	case api.RelGroup:
		return c.columnsOfGroup(node, c.columns[node.A])
	}
	return c.columns[node.A], api.OK
}

// columnsOfTable returns the columns of the first table with the given name.
func (c checker) columnsOfTable(name string) ([]int, api.Errno) {
	for _, table := range c.tables {
		if table.Name == name {
			return table.Kinds, api.OK
		}
	}
	return nil, api.ErrName
}

// checkPred returns the columns over which it checks a predicate.
func (c checker) checkPred(pred int, columns []int) ([]int, api.Errno) {
	kind, err := expr.Check(c.exprs, pred, columns)
	if err != api.OK {
		return nil, err
	}
	if !accepts(api.Bool, kind) {
		return nil, api.ErrType
	}
	return columns, api.OK
}

// types returns the types of the expressions with the given indexes.
func (c checker) types(roots, columns []int) ([]int, api.Errno) {
	var kinds []int
	for _, root := range roots {
		kind, err := expr.Check(c.exprs, root, columns)
		if err != api.OK {
			return nil, err
		}
		kinds = append(kinds, kind)
	}
	return kinds, api.OK
}

// columnsOfGroup returns the columns of a RelGroup whose input has the given
// columns.
func (c checker) columnsOfGroup(node api.Node, columns []int) ([]int, api.Errno) {
	keys, err := c.types(node.Exprs, columns)
	if err != api.OK {
		return nil, err
	}
	args := make([]int, len(node.Aggs))
	for i, agg := range node.Aggs {
		if args[i], err = c.typeOfArg(agg, columns); err != api.OK {
			return nil, err
		}
	}
	// The argument of a sum may have the wrong type only if no aggregate has an
	// error that takes precedence, so that this takes a second pass.
	for i, agg := range node.Aggs {
		if agg.Kind == api.AggSum && !accepts(api.Int, args[i]) {
			return nil, api.ErrType
		}
	}
	for i, agg := range node.Aggs {
		keys = append(keys, typeOfAggregate(agg.Kind, args[i]))
	}
	return keys, api.OK
}

// typeOfArg returns the type of the argument of an aggregate, if it has one.
func (c checker) typeOfArg(agg api.Aggregate, columns []int) (int, api.Errno) {
	switch agg.Kind {
	case api.AggCount:
		return api.Null, api.OK
	case api.AggSum, api.AggMin, api.AggMax:
		return expr.Check(c.exprs, agg.Arg, columns)
	}
	return 0, api.ErrSyntax
}

// typeOfAggregate returns the type of an aggregate whose argument has the type
// arg.
func typeOfAggregate(kind, arg int) int {
	if kind == api.AggCount || kind == api.AggSum {
		return api.Int
	}
	return arg
}

// commonColumns returns the columns of a set operation.
func commonColumns(a, b []int) ([]int, api.Errno) {
	if len(a) != len(b) {
		return nil, api.ErrType
	}
	common := slices.Clone(a)
	for i, kind := range b {
		switch {
		case accepts(a[i], kind):
		case a[i] == api.Null:
			common[i] = kind
		default:
			return nil, api.ErrType
		}
	}
	return common, api.OK
}

// accepts reports whether an expression of the given type may stand where
// another type is required.
func accepts(required, kind int) bool {
	return kind == required || kind == api.Null
}
