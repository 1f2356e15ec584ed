package algebra_test

import (
	"math"
	"slices"
	"strings"
	"testing"

	"annalist/algebra"
	"annalist/api"
	"annalist/bag"
	"annalist/value"
)

// staff returns tables with rows that are not in canonical order. Some rows
// occur several times, with the same lineage or with another one.
func staff() []api.RowTable {
	return []api.RowTable{
		table("t", ids(api.Int, api.Text),
			row(vals(num(2), text("b")), 5), row(vals(num(1), text("b")), 4), row(vals(null, text("a")), 3), row(vals(num(1), text("a")), 2, 7), row(vals(num(1), text("a")), 1)),
		table("u", ids(api.Int, api.Text), row(vals(num(3), null), 13), row(vals(num(1), text("a")), 12), row(vals(null, text("a")), 2, 11), row(vals(null, text("a")), 10)),
		table("t", ids(api.Bool), row(vals(yes), 20)),
		table("empty", ids(api.Int, api.Text)),
	}
}

func TestEvalOfOneInput(t *testing.T) {
	tests := []struct {
		name string
		node api.Node
		want []api.Row
	}{
		{"scan of the first table of its name", scan("t"),
			rows(row(vals(null, text("a")), 3), row(vals(num(1), text("a")), 1), row(vals(num(1), text("a")), 2, 7), row(vals(num(1), text("b")), 4), row(vals(num(2), text("b")), 5))},
		{"scan of nothing", scan("empty"), nil},
		{"select", filter(0, col0Is1), rows(row(vals(num(1), text("a")), 1), row(vals(num(1), text("a")), 2, 7), row(vals(num(1), text("b")), 4))},
		{"select all", filter(1, always), rows(row(vals(null, text("a")), 2, 11), row(vals(null, text("a")), 10), row(vals(num(1), text("a")), 12), row(vals(num(3), null), 13))},
		{"select none", filter(0, never), nil},
		{"select Null", filter(0, nothing), nil},
		{"select by a function of Null", filter(1, col1IsNull), rows(row(vals(num(3), null), 13))},
		// Equal rows are kept.
		{"project", project(0, col1, col0Negated), rows(row(vals(text("a"), null), 3), row(vals(text("a"), num(-1)), 1), row(vals(text("a"), num(-1)), 2, 7), row(vals(text("b"), num(-2)), 5), row(vals(text("b"), num(-1)), 4))},
		{"project constants", project(0, letter), rows(row(vals(text("a")), 1), row(vals(text("a")), 2, 7), row(vals(text("a")), 3), row(vals(text("a")), 4), row(vals(text("a")), 5))},
		{"project a column twice", project(1, col0, nothing, col0), rows(row(vals(null, null, null), 2, 11), row(vals(null, null, null), 10), row(vals(num(1), null, num(1)), 12), row(vals(num(3), null, num(3)), 13))},
		{"distinct", distinct(0), rows(row(vals(null, text("a")), 3), row(vals(num(1), text("a")), 1, 2, 7), row(vals(num(1), text("b")), 4), row(vals(num(2), text("b")), 5))},
		{"distinct rows with Null", distinct(1), rows(row(vals(null, text("a")), 2, 10, 11), row(vals(num(1), text("a")), 12), row(vals(num(3), null), 13))},
		{"distinct of nothing", distinct(2), nil},
		{"group", group(0, ids(col0), aggregate(api.AggCount, 0), aggregate(api.AggMin, col1), aggregate(api.AggMax, col1), aggregate(api.AggSum, col0)),
			rows(row(vals(null, num(1), text("a"), text("a"), null), 3), row(vals(num(1), num(3), text("a"), text("b"), num(3)), 1, 2, 4, 7), row(vals(num(2), num(1), text("b"), text("b"), num(2)), 5))},
		{"group by Null", group(1, ids(col0), aggregate(api.AggCount, 0)), rows(row(vals(null, num(2)), 2, 10, 11), row(vals(num(1), num(1)), 12), row(vals(num(3), num(1)), 13))},
		{"group by expressions", group(0, ids(col0Is1, letter), aggregate(api.AggSum, col0Plus1)),
			rows(row(vals(no, text("a"), num(3)), 3, 5), row(vals(yes, text("a"), num(6)), 1, 2, 4, 7))},
		{"group with keys alone", group(0, ids(col1)), rows(row(vals(text("a")), 1, 2, 3, 7), row(vals(text("b")), 4, 5))},
		{"group without keys", group(0, nil, aggregate(api.AggCount, 0), aggregate(api.AggSum, col0), aggregate(api.AggMin, col0), aggregate(api.AggMax, col0)),
			rows(row(vals(num(5), num(5), num(1), num(2)), 1, 2, 3, 4, 5, 7))},
		{"group of nothing without keys", group(2, nil, aggregate(api.AggCount, 0), aggregate(api.AggSum, col0), aggregate(api.AggMin, col0), aggregate(api.AggMax, col1), aggregate(api.AggMax, single)),
			rows(row(vals(num(0), null, null, null, null)))},
		{"group of nothing with keys", group(2, ids(letter), aggregate(api.AggCount, 0)), nil},
		{"aggregates in any order, also repeated", group(0, nil, aggregate(api.AggMax, col0), aggregate(api.AggCount, 0), aggregate(api.AggMax, col0), aggregate(api.AggMin, col0Negated)),
			rows(row(vals(num(2), num(5), num(2), num(-2)), 1, 2, 3, 4, 5, 7))},
	}
	for _, x := range tests {
		checkEval(t, x.name, query(scan("t"), scan("u"), scan("empty"), x.node), staff(), x.want, api.OK)
	}
}

func TestEvalOfTwoInputs(t *testing.T) {
	a, b := vals(num(1), text("a")), vals(null, text("a"))
	tests := []struct {
		name string
		node api.Node
		want []api.Row
	}{
		{"join", join(0, 1, col0IsCol2), rows(row(slices.Concat(a, a), 1, 12), row(slices.Concat(a, a), 2, 7, 12), row(vals(num(1), text("b"), num(1), text("a")), 4, 12))},
		{"join with shared lineage", join(1, 0, col0Less2), rows(row(vals(num(1), text("a"), num(2), text("b")), 5, 12))},
		{"join without partners", join(0, 1, never), nil},
		{"join with a predicate that is Null", join(0, 1, nothing), nil},
		{"join with nothing", join(0, 2, always), nil},
		{"nothing with a join", join(2, 0, always), nil},
		{"left join", leftJoin(0, 1, col0IsCol2), rows(
			row(vals(null, text("a"), null, null), 3), row(slices.Concat(a, a), 1, 12), row(slices.Concat(a, a), 2, 7, 12),
			row(vals(num(1), text("b"), num(1), text("a")), 4, 12), row(vals(num(2), text("b"), null, null), 5))},
		{"left join the other way round", leftJoin(1, 0, col0Less2), rows(
			row(slices.Concat(b, vals(null, null)), 2, 11), row(slices.Concat(b, vals(null, null)), 10), row(vals(num(1), text("a"), num(2), text("b")), 5, 12), row(vals(num(3), null, null, null), 13))},
		{"left join with nothing", leftJoin(1, 2, always), rows(
			row(slices.Concat(b, vals(null, null)), 2, 11), row(slices.Concat(b, vals(null, null)), 10), row(vals(num(1), text("a"), null, null), 12), row(vals(num(3), null, null, null), 13))},
		{"nothing with a left join", leftJoin(2, 0, always), nil},
		{"union", union(0, 1), rows(
			row(b, 2, 11), row(b, 3), row(b, 10), row(a, 1), row(a, 2, 7), row(a, 12), row(vals(num(1), text("b")), 4), row(vals(num(2), text("b")), 5), row(vals(num(3), null), 13))},
		{"union with nothing", union(2, 1), rows(row(b, 2, 11), row(b, 10), row(a, 12), row(vals(num(3), null), 13))},
		{"union with itself", union(3, 3), rows(row(a, 1), row(a, 1), row(a, 2, 7), row(a, 2, 7), row(vals(num(1), text("b")), 4), row(vals(num(1), text("b")), 4))},
		{"except", except(0, 1), rows(row(a, 1, 2, 7, 12), row(vals(num(1), text("b")), 4), row(vals(num(2), text("b")), 5))},
		{"except, the other way round", except(1, 0), rows(row(b, 2, 3, 10, 11), row(vals(num(3), null), 13))},
		{"except itself", except(0, 0), nil},
		{"except nothing", except(3, 2), rows(row(a, 1, 2, 7), row(a, 1, 2, 7), row(vals(num(1), text("b")), 4))},
		{"nothing except", except(2, 0), nil},
		{"intersect", intersect(0, 1), rows(row(b, 2, 3, 10, 11), row(a, 1, 2, 7, 12))},
		{"intersect, the other way round", intersect(1, 0), rows(row(b, 2, 3, 10, 11), row(a, 1, 2, 7, 12))},
		{"intersect with itself", intersect(3, 3), rows(row(a, 1, 2, 7), row(a, 1, 2, 7), row(vals(num(1), text("b")), 4))},
		{"intersect with nothing", intersect(0, 2), nil},
	}
	for _, x := range tests {
		checkEval(t, x.name, query(scan("t"), scan("u"), scan("empty"), filter(0, col0Is1), x.node), staff(), x.want, api.OK)
	}
}

// A set operation whose inputs both have a row several times.
func TestMultiplicities(t *testing.T) {
	for m := range 5 {
		for n := range 5 {
			var a, b []api.Row
			var all []int
			for i := range m {
				a, all = append(a, one(7, 10+i)), append(all, 10+i)
			}
			for i := range n {
				b, all = append(b, one(7, 20+i)), append(all, 20+i)
			}
			// Rows that are only in one of the inputs and only similar.
			db := []api.RowTable{table("a", ids(api.Int), append(a, one(6, 1))...), table("b", ids(api.Int), append(b, one(8, 2))...)}
			rest := append(rows(one(6, 1)), slices.Repeat(rows(one(7, all...)), max(0, m-n))...)
			common := slices.Repeat(rows(one(7, all...)), min(m, n))
			checkEval(t, "except", query(scan("a"), scan("b"), except(0, 1)), db, rest, api.OK)
			checkEval(t, "intersect", query(scan("a"), scan("b"), intersect(0, 1)), db, common, api.OK)
		}
	}
}

// Only a Bool with N equal to 1 is true.
func TestTruth(t *testing.T) {
	all := rows(one(1, 1), row(vals(text("true")), 2), row(vals(null), 3), row(vals(no), 4), row(vals(yes), 5), row(vals(api.Value{Kind: api.Bool, N: 2}), 6),
		row(vals(api.Value{Kind: api.Bool, N: -1}), 7), row(vals(api.Value{Kind: odd, N: 1}), 8), row(vals(api.Value{N: 1}), 9))
	db := []api.RowTable{table("t", ids(api.Bool), all...)}
	checkEval(t, "select", query(scan("t"), filter(0, col0)), db, rows(row(vals(yes), 5)), api.OK)
	single := []api.RowTable{table("t", ids(api.Bool), all...), table("s", ids(api.Int), one(0))}
	checkEval(t, "join", query(scan("t"), scan("s"), join(0, 1, col0)), single, rows(row(vals(yes, num(0)), 5)), api.OK)
	q := query(scan("t"), scan("s"), leftJoin(0, 1, col0), filter(2, col1IsNull), group(3, nil, aggregate(api.AggCount, 0)))
	checkEval(t, "left join", q, single, rows(row(vals(num(8)), 1, 2, 3, 4, 6, 7, 8, 9)), api.OK)
}

// Lists of values are equal exactly if all their fields are.
func TestDifferentValues(t *testing.T) {
	lists := [][]api.Value{
		nil, vals(null), vals(null, null), vals(num(0)), vals(no), vals(num(1)), vals(yes), vals(text("")), vals(text("1")), vals(text("null")), vals(text("a"), text("b")), vals(text("ab")),
		vals(text("ab"), null), vals(text("ab"), text("")), vals(text("a"), text("bc")), vals(num(1), num(23)), vals(num(12), num(3)), vals(text("\x00")), vals(num(math.MinInt64)), vals(num(1 << 32)),
		vals(api.Value{N: 1}), vals(api.Value{S: "a"}), vals(api.Value{Kind: api.Int, N: 1, S: "a"}), vals(api.Value{Kind: odd, N: 1}), vals(api.Value{Kind: odd, N: 2}), vals(api.Value{Kind: 1<<32 + 1, N: 1}),
	}
	for i, a := range lists {
		for j, b := range lists {
			db := []api.RowTable{table("a", ids(api.Int), row(a, 1)), table("b", ids(api.Int), row(b, 2))}
			want := rows(row(a, 1, 2))
			common, rest := want, rows()
			if i != j {
				want = rows(row(a, 1), row(b, 2))
				slices.SortFunc(want, func(x, y api.Row) int { return value.CompareRows(x.Vals, y.Vals) })
				common, rest = nil, rows(row(a, 1))
			}
			checkEval(t, "distinct", query(scan("a"), scan("b"), union(0, 1), distinct(2)), db, want, api.OK)
			checkEval(t, "intersect", query(scan("a"), scan("b"), intersect(0, 1)), db, common, api.OK)
			checkEval(t, "except", query(scan("a"), scan("b"), except(0, 1)), db, rest, api.OK)
		}
	}
}

// Rows may have more or fewer values than their table has columns.
func TestRowsOfOtherLengths(t *testing.T) {
	db := []api.RowTable{
		table("t", ids(api.Int, api.Int), row(nil, 1), one(1, 2), row(vals(num(1), num(2)), 3), row(vals(num(1), num(2), num(1)), 4), row(vals(num(1), null), 5)),
		table("u", ids(api.Int, api.Int), one(1, 11), row(vals(num(1), num(2), num(1)), 12), row(vals(num(5), num(1), num(1), text("z")), 13)),
		table("none", ids(api.Int, api.Int, api.Int), one(0)),
	}
	tests := []struct {
		name  string
		nodes []api.Node
		want  []api.Row
	}{
		{"scan", []api.Node{scan("t")}, rows(row(nil, 1), one(1, 2), row(vals(num(1), null), 5), row(vals(num(1), num(2)), 3), row(vals(num(1), num(2), num(1)), 4))},
		{"select", []api.Node{filter(0, col0Is1)}, rows(one(1, 2), row(vals(num(1), null), 5), row(vals(num(1), num(2)), 3), row(vals(num(1), num(2), num(1)), 4))},
		{"select by a missing value", []api.Node{filter(0, col1IsNull)}, rows(row(nil, 1), one(1, 2), row(vals(num(1), null), 5))},
		{"project", []api.Node{project(0, col1, col0)}, rows(row(vals(null, null), 1), row(vals(null, num(1)), 2), row(vals(null, num(1)), 5), row(vals(num(2), num(1)), 3), row(vals(num(2), num(1)), 4))},
		{"distinct", []api.Node{distinct(0)}, rows(row(nil, 1), one(1, 2), row(vals(num(1), null), 5), row(vals(num(1), num(2)), 3), row(vals(num(1), num(2), num(1)), 4))},
		{"group", []api.Node{group(0, ids(col0, col1), aggregate(api.AggCount, 0), aggregate(api.AggSum, col1))},
			rows(row(vals(null, null, num(1), null), 1), row(vals(num(1), null, num(2), null), 2, 5), row(vals(num(1), num(2), num(2), num(4)), 3, 4))},
		{"except", []api.Node{except(0, 1)}, rows(row(nil, 1), row(vals(num(1), null), 5), row(vals(num(1), num(2)), 3))},
		{"intersect", []api.Node{intersect(0, 1)}, rows(one(1, 2, 11), row(vals(num(1), num(2), num(1)), 4, 12))},
		{"union", []api.Node{union(0, 1), filter(3, col0Is1), distinct(4)},
			rows(one(1, 2, 11), row(vals(num(1), null), 5), row(vals(num(1), num(2)), 3), row(vals(num(1), num(2), num(1)), 4, 12))},
		// The values that are there are concatenated, so that column 2 may come
		// from either row.
		{"join", []api.Node{join(0, 1, col0IsCol2)}, rows(
			row(vals(num(1), null, num(1)), 5, 11), row(vals(num(1), null, num(1), num(2), num(1)), 5, 12),
			row(vals(num(1), num(2), num(1)), 1, 12), row(vals(num(1), num(2), num(1)), 3, 11), row(vals(num(1), num(2), num(1), num(1)), 4, 11),
			row(vals(num(1), num(2), num(1), num(1), num(2), num(1)), 4, 12), row(vals(num(1), num(2), num(1), num(2), num(1)), 3, 12),
			row(vals(num(1), num(2), num(1), num(5), num(1), num(1), text("z")), 4, 13), row(vals(num(1), num(5), num(1), num(1), text("z")), 2, 13))},
		// The Nulls are as many as B has columns, not as its rows have values.
		{"left join", []api.Node{leftJoin(0, 2, never)}, rows(
			row(vals(null, null, null), 1), row(vals(num(1), null, null, null), 2), row(vals(num(1), null, null, null, null), 5),
			row(vals(num(1), num(2), null, null, null), 3), row(vals(num(1), num(2), num(1), null, null, null), 4))},
	}
	for _, x := range tests {
		checkEval(t, x.name, query(append([]api.Node{scan("t"), scan("u"), scan("none")}, x.nodes...)...), db, x.want, api.OK)
	}
}

// aggregated returns the aggregate of a column with the given values.
func aggregated(t *testing.T, kind int, column []api.Value) api.Value {
	t.Helper()
	var all []api.Row
	for i, v := range column {
		all = append(all, row(vals(v), i+1))
	}
	got, err := algebra.Eval(query(scan("t"), group(0, nil, aggregate(kind, col0))), []api.RowTable{table("t", ids(api.Null), all...)})
	if len(got) != 1 || len(got[0].Vals) != 1 || err != api.OK {
		t.Fatalf("P9.2: the aggregate %d of %v is %v, %d", kind, column, got, err)
	}
	return got[0].Vals[0]
}

func TestSums(t *testing.T) {
	least, most := num(math.MinInt64), num(math.MaxInt64)
	tests := []struct {
		column []api.Value
		want   api.Value
	}{
		{nil, null}, {vals(null), null}, {vals(null, null), null}, {vals(num(0)), num(0)}, {vals(null, num(0)), num(0)}, {vals(num(5), null, num(-7), num(5)), num(3)},
		{vals(most), most}, {vals(least), least}, {vals(most, num(0)), most}, {vals(most, num(1)), null}, {vals(num(1), most), null}, {vals(least, num(-1)), null}, {vals(num(-1), least), null},
		{vals(most, least), num(-1)}, {vals(most, num(1), num(-1)), most}, {vals(num(-1), least, num(1)), least}, {vals(most, most), null}, {vals(most, most, num(2)), null},
		// The sum wraps around to a small number more than once.
		{vals(least, least), null}, {vals(least, least, num(1)), null}, {vals(least, least, least, least), null}, {slices.Repeat(vals(least), 1024), null}, {slices.Repeat(vals(most), 1024), null},
		{slices.Repeat(vals(least), api.MaxItems), null}, {append(slices.Repeat(vals(most), 1024), num(1024)), null},
		{vals(least, least, most, most), num(-2)}, {vals(most, most, most, least, least, least), num(-3)}, {vals(most, most, most, least, least), num(math.MaxInt64 - 2)}, {vals(least, least, least, most, most), null}, {vals(least, least, most, num(1)), least},
		{slices.Concat(slices.Repeat(vals(most), 2048), slices.Repeat(vals(least), 2048)), num(-2048)},
		// Other values are no Ints.
		{vals(text("5"), num(2), yes), num(2)}, {vals(text("5"), no), null}, {vals(yes), null}, {vals(api.Value{Kind: odd, N: 4}), null}, {vals(api.Value{Kind: odd, N: 4}, num(1)), num(1)},
	}
	for _, x := range tests {
		if got := aggregated(t, api.AggSum, x.column); got != x.want {
			t.Errorf("P9.2: the sum of %v is %v, want %v", x.column, got, x.want)
		}
	}
}

// The values of a column are compared by their kinds first.
func TestLeastAndGreatestValues(t *testing.T) {
	tests := []struct {
		column      []api.Value
		least, most api.Value
	}{
		{nil, null, null}, {vals(null), null, null}, {vals(null, null), null, null}, {vals(num(4)), num(4), num(4)}, {vals(num(4), null), num(4), num(4)}, {vals(null, num(4)), num(4), num(4)},
		{vals(num(2), num(10), num(-3)), num(-3), num(10)}, {vals(num(-3), num(10), num(2)), num(-3), num(10)}, {vals(num(10), num(2), num(-3), num(10)), num(-3), num(10)},
		{vals(num(math.MaxInt64), num(math.MinInt64), num(0)), num(math.MinInt64), num(math.MaxInt64)}, {vals(num(0), null, num(0)), num(0), num(0)},
		{vals(text("b"), text("ab"), text("B"), text("")), text(""), text("b")}, {vals(text("a"), text("a\x00"), text("\xff")), text("a"), text("\xff")}, {vals(yes, no, null), no, yes}, {vals(yes, yes), yes, yes},
		{vals(text("5"), num(9), null, no), num(9), no}, {vals(num(9), text("5")), num(9), text("5")}, {vals(api.Value{Kind: odd, N: 1}, yes), yes, api.Value{Kind: odd, N: 1}}, {vals(api.Value{Kind: -1}, num(0)), api.Value{Kind: -1}, num(0)},
	}
	for _, x := range tests {
		if got := aggregated(t, api.AggMin, x.column); got != x.least {
			t.Errorf("P9.2: the least value of %v is %v, want %v", x.column, got, x.least)
		}
		if got := aggregated(t, api.AggMax, x.column); got != x.most {
			t.Errorf("P9.2: the greatest value of %v is %v, want %v", x.column, got, x.most)
		}
	}
}

// A count includes Null and depends on no argument.
func TestCounts(t *testing.T) {
	for _, column := range [][]api.Value{nil, vals(null), vals(num(1), null, num(1)), vals(yes, text("a"), no, null, null), slices.Repeat(vals(null), api.MaxItems)} {
		if got := aggregated(t, api.AggCount, column); got != num(int64(len(column))) {
			t.Errorf("P9.2: the count of %d rows is %v", len(column), got)
		}
	}
}

// The lineage of a group, of equal rows and of a pair is merged; all others are
// kept.
func TestLineages(t *testing.T) {
	db := []api.RowTable{
		table("t", ids(api.Int), one(1, 3, 5, 9), one(1, 1, 5), one(1), one(1, 4, 9, 12), one(2, 6)),
		table("u", ids(api.Int), one(1, 2, 5, 9), one(3, 1, 2), one(3, 2, 6)),
	}
	tests := []struct {
		name string
		node api.Node
		want []api.Row
	}{
		{"distinct", distinct(0), rows(one(1, 1, 3, 4, 5, 9, 12), one(2, 6))},
		{"group", group(0, ids(col0), aggregate(api.AggCount, 0)), rows(row(vals(num(1), num(4)), 1, 3, 4, 5, 9, 12), row(vals(num(2), num(1)), 6))},
		{"group without keys", group(0, nil, aggregate(api.AggMax, col0)), rows(one(2, 1, 3, 4, 5, 6, 9, 12))},
		{"project", project(0, letter), rows(row(vals(text("a"))), row(vals(text("a")), 1, 5), row(vals(text("a")), 3, 5, 9), row(vals(text("a")), 4, 9, 12), row(vals(text("a")), 6))},
		{"except", except(0, 1), rows(one(1, 1, 2, 3, 4, 5, 9, 12), one(1, 1, 2, 3, 4, 5, 9, 12), one(1, 1, 2, 3, 4, 5, 9, 12), one(2, 6))},
		{"intersect", intersect(0, 1), rows(one(1, 1, 2, 3, 4, 5, 9, 12))},
		{"union", union(0, 1), rows(one(1), one(1, 1, 5), one(1, 2, 5, 9), one(1, 3, 5, 9), one(1, 4, 9, 12), one(2, 6), one(3, 1, 2), one(3, 2, 6))},
		{"select", filter(1, always), rows(one(1, 2, 5, 9), one(3, 1, 2), one(3, 2, 6))},
		{"left join", leftJoin(0, 1, col0IsCol1), rows(
			row(vals(num(1), num(1)), 1, 2, 5, 9), row(vals(num(1), num(1)), 2, 3, 5, 9), row(vals(num(1), num(1)), 2, 4, 5, 9, 12), row(vals(num(1), num(1)), 2, 5, 9), row(vals(num(2), null), 6))},
		{"join", join(1, 0, col0IsCol1), rows(
			row(vals(num(1), num(1)), 1, 2, 5, 9), row(vals(num(1), num(1)), 2, 3, 5, 9), row(vals(num(1), num(1)), 2, 4, 5, 9, 12), row(vals(num(1), num(1)), 2, 5, 9))},
	}
	for _, x := range tests {
		checkEval(t, x.name, query(scan("t"), scan("u"), x.node), db, x.want, api.OK)
	}
}

// A lineage that is passed on is not merged, even if it is out of order.
func TestLineagesOutOfOrder(t *testing.T) {
	db := []api.RowTable{table("t", ids(api.Int), one(1, 5, 2, 5), one(1, 4, 3)), table("u", ids(api.Int), one(1, 9, 8, 5))}
	kept := rows(one(1, 4, 3), one(1, 5, 2, 5))
	for _, n := range []api.Node{scan("t"), filter(0, always), project(0, col0), union(0, 2)} {
		checkEval(t, "kept", query(scan("t"), scan("u"), filter(0, never), n), db, kept, api.OK)
	}
	checkEval(t, "left join", query(scan("t"), leftJoin(0, 0, never), project(1, col0)), db, kept, api.OK)
	checkEval(t, "join", query(scan("t"), scan("u"), join(0, 1, always)), db, rows(row(vals(num(1), num(1)), 2, 5, 8, 9), row(vals(num(1), num(1)), 3, 4, 5, 8, 9)), api.OK)
	checkEval(t, "distinct", query(scan("t"), distinct(0)), db, rows(one(1, 2, 3, 4, 5)), api.OK)
	checkEval(t, "intersect", query(scan("t"), scan("u"), intersect(0, 1)), db, rows(one(1, 2, 3, 4, 5, 8, 9)), api.OK)
}

// many returns a table with n different rows.
func many(name string, n int) api.RowTable {
	x := table(name, ids(api.Int))
	for i := range n {
		x.Rows = append(x.Rows, one(int64(i), i+1))
	}
	return x
}

// No node may have too many rows, even if it does not contribute to the result.
func TestMaxItems(t *testing.T) {
	db := []api.RowTable{many("most", api.MaxItems), many("full", api.MaxItems+1), many("half", api.MaxItems/2), many("rest", api.MaxItems/2+1), many("few", 64), many("more", 65), many("one", 1), many("two", 2), many("none", 0)}
	tests := []struct {
		name  string
		nodes []api.Node
		err   api.Errno
	}{
		{"scan", []api.Node{scan("most")}, api.OK},
		{"full scan", []api.Node{scan("full")}, api.ErrFull},
		{"full table that is not scanned", []api.Node{scan("none")}, api.OK},
		{"full scan that is not used", []api.Node{scan("full"), scan("none")}, api.ErrFull},
		{"full scan that is not used, at the end", []api.Node{scan("none"), scan("full"), distinct(0)}, api.ErrFull},
		{"full scan without selected rows", []api.Node{scan("full"), filter(0, never)}, api.ErrFull},
		{"full scan in one group", []api.Node{scan("full"), group(0, nil, aggregate(api.AggCount, 0))}, api.ErrFull},
		{"full scan without partners", []api.Node{scan("full"), scan("none"), join(0, 1, always)}, api.ErrFull},
		{"operators", []api.Node{scan("most"), filter(0, always), project(1, col0), distinct(2), group(3, ids(col0)), except(4, 0), intersect(4, 0)}, api.OK},
		{"union", []api.Node{scan("half"), union(0, 0)}, api.OK},
		{"full union", []api.Node{scan("half"), scan("rest"), union(0, 1)}, api.ErrFull},
		{"full union that is reduced", []api.Node{scan("half"), scan("rest"), union(0, 1), distinct(2)}, api.ErrFull},
		{"full union that is not used", []api.Node{scan("most"), union(0, 0), scan("one")}, api.ErrFull},
		{"product", []api.Node{scan("few"), join(0, 0, always)}, api.OK},
		{"full product", []api.Node{scan("few"), scan("more"), join(0, 1, always)}, api.ErrFull},
		{"full product, the other way round", []api.Node{scan("more"), scan("few"), join(0, 1, always), distinct(0)}, api.ErrFull},
		{"largest product", []api.Node{scan("most"), scan("one"), join(0, 1, always), join(1, 0, always), leftJoin(0, 1, always), leftJoin(1, 0, always)}, api.OK},
		{"left join without partners", []api.Node{scan("most"), scan("none"), leftJoin(0, 1, always)}, api.OK},
		{"left join with one partner for the last row", []api.Node{scan("most"), scan("one"), leftJoin(0, 1, isLast)}, api.OK},
		{"left join with two partners for the last row", []api.Node{scan("most"), scan("two"), leftJoin(0, 1, isLast)}, api.ErrFull},
		{"join with two partners for the last row", []api.Node{scan("most"), scan("two"), join(0, 1, isLast)}, api.OK},
		{"left join of few rows", []api.Node{scan("few"), leftJoin(0, 0, always)}, api.OK},
		{"full left join", []api.Node{scan("few"), scan("more"), leftJoin(0, 1, always)}, api.ErrFull},
		{"join of which one row has all partners", []api.Node{scan("few"), scan("most"), join(0, 1, col0Is1)}, api.OK},
		{"join of which two rows have all partners", []api.Node{scan("few"), scan("most"), join(0, 1, col0Is1), union(2, 2)}, api.ErrFull},
		{"left join of which one row has all partners", []api.Node{scan("few"), scan("most"), leftJoin(0, 1, col0Is1)}, api.ErrFull},
		{"except nothing", []api.Node{scan("most"), scan("none"), except(0, 1), intersect(0, 1)}, api.OK},
		{"wrong node behind a full one", []api.Node{scan("full"), scan("x")}, api.ErrName},
		{"wrong node ahead of a full one", []api.Node{filter(0, always), scan("full")}, api.ErrRange},
	}
	for _, x := range tests {
		got, err := algebra.Eval(query(x.nodes...), db)
		if err != x.err || err != api.OK && len(got) > 0 {
			t.Errorf("P9.2: %s: %d rows, %d, want %d", x.name, len(got), err, x.err)
		}
	}
}

// The rows of the largest results are the right ones.
func TestLargestResults(t *testing.T) {
	db := []api.RowTable{many("most", api.MaxItems), many("few", 64)}
	most := db[0].Rows
	var pairs []api.Row
	for i := range 64 {
		for j := range 64 {
			lineage := ids(min(i, j)+1, max(i, j)+1)
			pairs = append(pairs, row(vals(num(int64(i)), num(int64(j))), slices.Compact(lineage)...))
		}
	}
	checkEval(t, "product", query(scan("few"), join(0, 0, always)), db, pairs, api.OK)
	checkEval(t, "scan", query(scan("most")), db, most, api.OK)
	checkEval(t, "except", query(scan("most"), scan("few"), except(0, 1)), db, most[64:], api.OK)
	checkEval(t, "intersect", query(scan("few"), scan("most"), intersect(0, 1)), db, most[:64], api.OK)
}

// The rows are in canonical order, whatever the last node is.
func TestCanonicalOrder(t *testing.T) {
	db := []api.RowTable{table("t", ids(api.Int, api.Text),
		row(vals(num(10), text("b")), 1), row(vals(num(9), text("a")), 12), row(vals(num(10), text("a")), 8, 9), row(vals(num(-1), text("c")), 4), row(vals(num(9), text("a")), 2, 30),
		row(vals(num(9), text("a")), 2), row(vals(null, text("z")), 7), row(vals(num(10), text("B")), 3), row(vals(num(9), text("a")), 2, 4))}
	nodes := []api.Node{
		scan("t"), filter(0, always), project(0, col1, col0), join(0, 0, col0IsCol2), leftJoin(0, 0, col0Less2), union(0, 0), except(0, 1), intersect(0, 0), distinct(0),
		group(0, ids(col1)), group(0, ids(col1IsNull, col0), aggregate(api.AggMax, col1)),
	}
	for _, n := range nodes {
		got, err := algebra.Eval(query(scan("t"), filter(0, never), n), db)
		if !sameRows(got, bag.Sort(got)) || len(got) < 3 || err != api.OK {
			t.Errorf("P9.2: the rows of %+v are %v, %d", n, got, err)
		}
	}
}

// copied returns the tables in memory of their own.
func copied(db []api.RowTable) []api.RowTable {
	var copies []api.RowTable
	for _, x := range db {
		own := table(x.Type.Name, slices.Clone(x.Type.Kinds))
		for _, r := range x.Rows {
			own.Rows = append(own.Rows, row(slices.Clone(r.Vals), slices.Clone(r.Lineage)...))
		}
		copies = append(copies, own)
	}
	return copies
}

func sameTables(a, b []api.RowTable) bool {
	return slices.EqualFunc(a, b, func(x, y api.RowTable) bool {
		return x.Type.Name == y.Type.Name && slices.Equal(x.Type.Kinds, y.Type.Kinds) && sameRows(x.Rows, y.Rows)
	})
}

// The rows of a result share no memory, neither with the tables nor with one
// another, and the tables are left as they are.
func TestEvalIsNewMemory(t *testing.T) {
	nodes := []api.Node{
		scan("t"), filter(0, always), project(0, col1, col0), join(0, 0, col0IsCol2), leftJoin(0, 1, never), leftJoin(0, 0, always), union(0, 0), union(0, 1), except(0, 1), intersect(0, 0), distinct(0),
		group(0, ids(col1)), group(0, ids(col0), aggregate(api.AggMax, col1)),
	}
	for _, n := range nodes {
		values, lineage := vals(num(1), text("a"), null), ids(1, 2, 3)
		shared := row(values[:2], lineage[:2]...)
		db := []api.RowTable{table("t", ids(api.Int, api.Text), shared, shared, row(vals(num(2), text("a")), 7))}
		before := copied(db)
		q := query(scan("t"), filter(0, never), n)
		got, err := algebra.Eval(q, db)
		if len(got) == 0 || err != api.OK {
			t.Fatalf("P9.2: the rows of %+v are %v, %d", n, got, err)
		}
		want := bag.Sort(got)
		for i, r := range got {
			overwrite(r)
			if !sameRows(got[i+1:], want[i+1:]) || !sameTables(db, before) || !slices.Equal(values, vals(num(1), text("a"), null)) || !slices.Equal(lineage, ids(1, 2, 3)) {
				t.Fatalf("P9.2: a change of row %d of %+v changed another row or a table", i, n)
			}
		}
		checkEval(t, "evaluated again", q, db, want, api.OK)
	}
}

// overwrite changes all the memory of a row's values and lineage.
func overwrite(r api.Row) {
	for i := range r.Vals[:cap(r.Vals)] {
		r.Vals[:cap(r.Vals)][i] = text("changed")
	}
	for i := range r.Lineage[:cap(r.Lineage)] {
		r.Lineage[:cap(r.Lineage)][i] = -7
	}
}

// A nil slice and an empty slice are the same.
func TestNilAndEmptySlices(t *testing.T) {
	bare, empty := api.Row{}, api.Row{Vals: []api.Value{}, Lineage: []int{}}
	for _, nodes := range [][]api.Node{{scan("t"), distinct(0)}, {scan("t"), {Kind: api.RelGroup, Exprs: []int{}, Aggs: []api.Aggregate{aggregate(api.AggCount, 0)}}}, {scan("t"), intersect(0, 0)}} {
		a, err := algebra.Eval(query(nodes...), []api.RowTable{table("t", ids(api.Int), bare, empty)})
		if err != api.OK {
			t.Fatalf("P9.2: Eval(%+v) = %d", nodes, err)
		}
		checkEval(t, "empty rows", query(nodes...), []api.RowTable{table("t", ids(api.Int), empty, empty)}, a, api.OK)
		checkEval(t, "bare rows", query(nodes...), []api.RowTable{table("t", ids(api.Int), bare, bare)}, a, api.OK)
	}
	for _, none := range [][]api.Row{nil, {}} {
		checkEval(t, "no rows", query(scan("t"), group(0, nil, aggregate(api.AggCount, 0))), []api.RowTable{{Type: api.TableType{Name: "t", Kinds: ids(api.Int)}, Rows: none}}, rows(one(0)), api.OK)
	}
	checkError(t, "empty slices", api.Query{Nodes: []api.Node{}, Exprs: []api.Expr{}}, []api.TableType{}, api.ErrTooLong)
}

// The result does not depend on the order of the rows, not even if a query
// chooses among equal values or adds numbers that wrap around.
func TestTheOrderOfRowsDoesNotMatter(t *testing.T) {
	random := pseudoRandom()
	most := text(strings.Repeat("a", api.MaxText))
	var all []api.Row
	for i := range 40 {
		all = append(all, row(vals([]api.Value{null, num(1), num(math.MaxInt64), num(math.MinInt64), num(-5)}[i%5], []api.Value{most, text("b"), null}[i%3]), i%7, 10+i%4))
	}
	db := []api.RowTable{table("t", ids(api.Int, api.Text), all...), table("u", ids(api.Int, api.Text), all[7:25]...)}
	nodes := []api.Node{scan("t"), filter(0, col1IsNull), project(0, col1), join(0, 1, col0IsCol2), leftJoin(0, 1, col0Less2), union(0, 1), except(0, 1), intersect(0, 1), distinct(0),
		group(0, ids(col1), aggregate(api.AggSum, col0), aggregate(api.AggMin, col0), aggregate(api.AggMax, col0), aggregate(api.AggCount, 0)), group(0, nil, aggregate(api.AggSum, col0), aggregate(api.AggMax, col1))}
	for _, n := range nodes {
		q := query(scan("t"), scan("u"), n)
		want, err := algebra.Eval(q, db)
		if len(want) == 0 || err != api.OK {
			t.Fatalf("P9.3: the rows of %+v are %v, %d", n, want, err)
		}
		for range 20 {
			mixed := shuffled(db, random)
			if got, err := algebra.Eval(q, mixed); !sameRows(got, want) || err != api.OK {
				t.Fatalf("P9.3: in another order the rows of %+v are %v, %d, want %v", n, got, err, want)
			}
		}
	}
}

// randomTables returns tables with few different values.
func randomTables(random func(n int) int) []api.RowTable {
	values := vals(null, num(0), num(1), num(2), num(math.MaxInt64), text("a"), text("b"), yes, no)
	some := func() []api.Row {
		var all []api.Row
		for range random(6) {
			r := row(nil, 1+random(4))
			if random(2) == 0 {
				r.Lineage = append(r.Lineage, 5+random(3))
			}
			for range []int{2, 2, 2, 3, 1}[random(5)] {
				r.Vals = append(r.Vals, values[random(len(values))])
			}
			all = append(all, r)
		}
		return all
	}
	return []api.RowTable{
		table("t", ids(api.Int, api.Text), some()...), table("u", ids(api.Int, api.Text), some()...), table("v", ids(api.Int, api.Int, api.Bool), some()...),
		table("nulls", ids(api.Null), some()...), table("t", ids(api.Bool), some()...), table("bare", nil, some()...),
	}
}

// randomNode returns a node that may be wrong to follow a number of others.
func randomNode(random func(n int) int, before int) api.Node {
	index := func() int { return random(before + 1) }
	list := func(n int) []int {
		var all []int
		for range n {
			all = append(all, random(badOperand))
		}
		return all
	}
	n := api.Node{Kind: 1 + random(10), A: index(), B: index(), Pred: random(badOperand), Exprs: list(random(4)), Table: []string{"t", "u", "v", "nulls", "bare", "x"}[random(6)]}
	for range random(3) {
		n.Aggs = append(n.Aggs, aggregate(random(6), random(badOperand)))
	}
	if random(100) == 0 {
		n.Kind = random(13) - 1
	}
	return n
}

// checkRandomQuery builds a query node by node, checks every wrong node that it
// comes across, and checks the rows of every right one.
func checkRandomQuery(t *testing.T, random func(n int) int, db []api.RowTable) {
	t.Helper()
	q := query()
	var before [][]api.Row
	for range 60 {
		n := randomNode(random, len(before))
		longer := q
		longer.Nodes = append(slices.Clone(q.Nodes), n)
		columns, err := wantCheck(longer, typesOf(db))
		if err != api.OK {
			checkError(t, "random query", longer, typesOf(db), err)
			continue
		}
		checkCheck(t, "random query", longer, typesOf(db), columns[len(columns)-1], api.OK)
		want := wantRows(longer, columns, before, db)
		if len(want) > 60 {
			continue
		}
		checkEval(t, "random query", longer, db, bag.Sort(want), api.OK)
		checkEval(t, "random query, the rows in another order", longer, shuffled(db, random), bag.Sort(want), api.OK)
		q, before = longer, append(before, want)
	}
}

func TestRandomQueries(t *testing.T) {
	random := pseudoRandom()
	for range 300 {
		checkRandomQuery(t, random, randomTables(random))
	}
}

// The example of the chapter, and the one of the document without time.
func TestExamples(t *testing.T) {
	checkEval(t, "grouping an empty relation", query(scan("t"), group(0, nil, aggregate(api.AggCount, 0))), []api.RowTable{table("t", ids(api.Int))}, rows(one(0)), api.OK)
	emp := table("emp", ids(api.Text, api.Int), row(vals(text("ann"), num(1)), 1), row(vals(text("bob"), num(2)), 2), row(vals(text("cat"), num(1)), 3))
	q := query(scan("emp"), group(0, ids(col1), aggregate(api.AggCount, 0)))
	checkEval(t, "count by department", q, []api.RowTable{emp}, rows(row(vals(num(1), num(2)), 1, 3), row(vals(num(2), num(1)), 2)), api.OK)
}
