package bag_test

import (
	"cmp"
	"math"
	"slices"
	"strings"
	"testing"

	"annalist/api"
	"annalist/bag"
	"annalist/value"
)

var (
	null = api.Value{Kind: api.Null}
	no   = api.Value{Kind: api.Bool, N: 0}
	yes  = api.Value{Kind: api.Bool, N: 1}
)

func num(n int64) api.Value { return api.Value{Kind: api.Int, N: n} }

func text(s string) api.Value { return api.Value{Kind: api.Text, S: s} }

func vals(all ...api.Value) []api.Value { return all }

func ids(all ...int) []int { return all }

func row(v []api.Value, lineage ...int) api.Row { return api.Row{Vals: v, Lineage: lineage} }

// one returns a row with a single Int.
func one(n int64, lineage ...int) api.Row { return row(vals(num(n)), lineage...) }

func rows(all ...api.Row) []api.Row { return all }

func sameVals(a, b api.Row) bool { return slices.Equal(a.Vals, b.Vals) }

func sameRow(a, b api.Row) bool { return sameVals(a, b) && slices.Equal(a.Lineage, b.Lineage) }

// sameRows reports whether two slices have the same rows in the same order.
func sameRows(a, b []api.Row) bool { return slices.EqualFunc(a, b, sameRow) }

// copied returns the rows in memory of their own.
func copied(all []api.Row) []api.Row {
	var copies []api.Row
	for _, r := range all {
		copies = append(copies, row(slices.Clone(r.Vals), slices.Clone(r.Lineage)...))
	}
	return copies
}

// ascending returns different rows in canonical order. Some values and lineages
// are invalid, and some are out of order when they are compared as texts, as
// unsigned or truncated numbers, by their lengths or by their differences.
func ascending() []api.Row {
	return rows(
		row(vals(api.Value{Kind: math.MinInt})), row(vals(api.Value{Kind: -1, N: 5, S: "a"})),
		row(vals(null)), row(vals(null), 1), row(vals(null, null)), row(vals(null, num(-1))), row(vals(api.Value{N: 1})),
		one(math.MinInt64), one(-10), one(-9, 4), one(0),
		one(1), one(1, math.MinInt), one(1, math.MinInt, math.MaxInt), one(1, -1), one(1, 0), one(1, 0, 0), one(1, 0, 0, 0),
		one(1, 1), one(1, 1, 1), one(1, 1, 2), one(1, 1, 2, 3), one(1, 1, 3), one(1, 1, 10), one(1, 2), one(1, 2, 1), one(1, 3), one(1, 3, 2, 1),
		one(1, 10), one(1, 11, -5), one(1, 1<<32), one(1, 1<<32+1), one(1, math.MaxInt), one(1, math.MaxInt, 0),
		row(vals(num(1), null)), row(vals(num(1), null), 5), row(vals(num(1), num(0)), 4), row(vals(num(1), num(0), null), 3), row(vals(num(1), num(2)), 2),
		row(vals(api.Value{Kind: api.Int, N: 1, S: "a"}), 1), one(2, 1), one(2, 5), one(10), one(1<<32), one(math.MaxInt64),
		row(vals(text(""))), row(vals(text(""), text("z"))), row(vals(text("B"))), row(vals(text("a")), 9), row(vals(text("a"), no), 8),
		row(vals(text("a\x00")), 7), row(vals(text("ab")), 6), row(vals(text("\xff")), 5),
		row(vals(no)), row(vals(no), 1, 2), row(vals(yes)), row(vals(api.Value{Kind: 4})), row(vals(api.Value{Kind: 1<<32 + 1})),
	)
}

// emptyRows are the rows without values in canonical order. They come before
// all others.
func emptyRows() []api.Row {
	return rows(row(nil), row(nil, -3), row(nil, 2), row(nil, 2, 9), row(nil, 9))
}

// few returns rows of which some agree in their values alone and some in their
// lineage alone. They are not in canonical order.
func few() []api.Row {
	return rows(one(2, 1), one(1, 2), one(1, 1, 3), row(vals(num(1), null), 1), row(nil, 2))
}

// slicesOf returns all slices of at most the given length whose elements are
// taken from a vocabulary.
func slicesOf[E any](vocabulary []E, most int) [][]E {
	all := [][]E{nil}
	shorter := all
	for range most {
		var longer [][]E
		for _, s := range shorter {
			for _, e := range vocabulary {
				longer = append(longer, append(slices.Clone(s), e))
			}
		}
		all = append(all, longer...)
		shorter = longer
	}
	return all
}

// pseudoRandom returns a function that returns numbers from 0 to n-1 in an order
// that is always the same.
func pseudoRandom() func(n int) int {
	state := uint64(8)
	return func(n int) int {
		state = state*6364136223846793005 + 1442695040888963407
		return int((state >> 33) % uint64(n))
	}
}

// shuffled returns the rows in another order.
func shuffled(all []api.Row, random func(n int) int) []api.Row {
	mixed := slices.Clone(all)
	for i := range mixed {
		k := i + random(len(mixed)-i)
		mixed[i], mixed[k] = mixed[k], mixed[i]
	}
	return mixed
}

// repeated returns the rows of a slice in canonical order, up to two times each.
func repeated(all []api.Row, random func(n int) int) []api.Row {
	var some []api.Row
	for _, r := range all {
		for range random(3) {
			some = append(some, r)
		}
	}
	return some
}

// count returns how many of the rows the condition holds for.
func count(all []api.Row, condition func(r api.Row) bool) int {
	n := 0
	for _, r := range all {
		if condition(r) {
			n++
		}
	}
	return n
}

// wantEqual is the definition of Equal: every row has the same multiplicity.
func wantEqual(a, b []api.Row) bool {
	for _, r := range slices.Concat(a, b) {
		same := func(other api.Row) bool { return sameRow(r, other) }
		if count(a, same) != count(b, same) {
			return false
		}
	}
	return true
}

// wantExcess is the definition of the rows of a that Diff returns: those in
// canonical order without the first n of each list of values, where n is its
// multiplicity in b.
func wantExcess(a, b []api.Row) []api.Row {
	var excess []api.Row
	sorted := bag.Sort(a)
	for i, r := range sorted {
		same := func(other api.Row) bool { return sameVals(r, other) }
		if count(sorted[:i], same) >= count(b, same) {
			excess = append(excess, r)
		}
	}
	return excess
}

func checkDiff(t *testing.T, a, b, wantLost, wantGained []api.Row) {
	t.Helper()
	lost, gained := bag.Diff(a, b)
	if !sameRows(lost, wantLost) || !sameRows(gained, wantGained) {
		t.Fatalf("P8.3: Diff(%v, %v) = %v, %v, want %v, %v", a, b, lost, gained, wantLost, wantGained)
	}
}

func TestSort(t *testing.T) {
	tests := []struct{ rows, want []api.Row }{
		{nil, nil},
		{rows(), nil},
		{rows(one(1, 2)), rows(one(1, 2))},
		{rows(row(nil)), rows(row(nil))},
		{rows(one(2), one(10), one(-1)), rows(one(-1), one(2), one(10))},
		// The values decide before the lineage does.
		{rows(one(2, 1), one(1, 2)), rows(one(1, 2), one(2, 1))},
		{rows(one(1, 3), one(1, 1, 2), one(1, 2), one(1, 1), one(1)), rows(one(1), one(1, 1), one(1, 1, 2), one(1, 2), one(1, 3))},
		{rows(row(vals(num(1), num(1)), 1), one(1, 9), row(nil, 20)), rows(row(nil, 20), one(1, 9), row(vals(num(1), num(1)), 1))},
		// A row that occurs several times is kept as often.
		{rows(one(1, 1), one(0), one(1, 1), one(0), one(1, 1)), rows(one(0), one(0), one(1, 1), one(1, 1), one(1, 1))},
		// The order of a lineage and its repetitions are kept.
		{rows(one(1, 5, 2, 5), one(1, 5, 2)), rows(one(1, 5, 2), one(1, 5, 2, 5))},
		{rows(row(vals(yes)), row(vals(text("a"))), one(7), row(vals(null))), rows(row(vals(null)), one(7), row(vals(text("a"))), row(vals(yes)))},
	}
	for _, x := range tests {
		if got := bag.Sort(x.rows); !sameRows(got, x.want) {
			t.Errorf("P8.1: Sort(%v) = %v, want %v", x.rows, got, x.want)
		}
	}
}

// Each two rows are put into order, whichever comes first in the argument.
func TestSortOfPairs(t *testing.T) {
	all := slices.Concat(emptyRows(), ascending())
	for i, a := range all {
		for k, b := range all {
			want := rows(a, b)
			if k < i {
				want = rows(b, a)
			}
			if got := bag.Sort(rows(a, b)); !sameRows(got, want) {
				t.Fatalf("P8.1: Sort(%v) = %v, want %v", rows(a, b), got, want)
			}
		}
	}
}

func TestCompare(t *testing.T) {
	all := slices.Concat(emptyRows(), ascending())
	for i, a := range all {
		for k, b := range all {
			if got, want := bag.Compare(a, b), cmp.Compare(i, k); got != want {
				t.Fatalf("P8.1: Compare(%v, %v) = %d, want %d", a, b, got, want)
			}
		}
	}
}

func TestSortOfAnyOrder(t *testing.T) {
	random := pseudoRandom()
	all := slices.Concat(emptyRows(), ascending())
	for range 500 {
		want := repeated(all, random)
		mixed := shuffled(want, random)
		if got := bag.Sort(mixed); !sameRows(got, want) {
			t.Fatalf("P8.1: Sort(%v) = %v, want %v", mixed, got, want)
		}
	}
}

func TestEqual(t *testing.T) {
	bags := [][]api.Row{
		nil,
		rows(row(nil)), rows(row(nil), row(nil)), rows(row(nil, 1)), rows(row(vals(null))),
		rows(one(1)), rows(one(1), one(1)), rows(one(1, 1)), rows(one(1, 1), one(1)), rows(one(1, 1, 2)), rows(one(1, 2, 1)), rows(one(1, 1), one(1, 2)),
		rows(one(1, 1), one(2, 2)), rows(one(1, 2), one(2, 1)), rows(one(1, 1), one(2, 2), one(2, 2)), rows(one(1, 1), one(1, 1), one(2, 2)),
		rows(row(vals(num(1), num(2)), 3)), rows(row(vals(num(2), num(1)), 3)), rows(row(vals(text("1")))), rows(row(vals(yes))),
		rows(row(vals(api.Value{N: 1}))), rows(row(vals(api.Value{Kind: 7}))), rows(row(vals(text("a"), text("b")))), rows(row(vals(text("ab")))),
	}
	for i, a := range bags {
		for k, b := range bags {
			reversed := copied(b)
			slices.Reverse(reversed)
			if got := bag.Equal(a, reversed); got != (i == k) {
				t.Errorf("P8.1: Equal(%v, %v) = %v, want %v", a, reversed, got, i == k)
			}
		}
	}
}

func TestEqualAgreesWithTheMultiplicities(t *testing.T) {
	all := slicesOf(few()[:4], 4)
	for _, a := range all {
		for _, b := range all {
			if got, want := bag.Equal(a, b), wantEqual(a, b); got != want {
				t.Fatalf("P8.1: Equal(%v, %v) = %v, want %v", a, b, got, want)
			}
		}
	}
}

// Two bags are equal exactly if their canonical representations are.
func TestEqualBagsHaveOneRepresentation(t *testing.T) {
	all := slicesOf(few(), 3)
	for _, a := range all {
		for _, b := range all {
			if got, want := bag.Equal(a, b), sameRows(bag.Sort(a), bag.Sort(b)); got != want {
				t.Fatalf("P8.1: Equal(%v, %v) = %v, want %v as for the sorted slices", a, b, got, want)
			}
		}
	}
}

func TestEqualOfChangedBags(t *testing.T) {
	random := pseudoRandom()
	all := slices.Concat(emptyRows(), ascending())
	for range 300 {
		a := append(repeated(all, random), all[random(len(all))])
		b := shuffled(copied(a), random)
		if !bag.Equal(a, b) || !bag.Equal(b, a) {
			t.Fatalf("P8.1: Equal(%v, %v) = false, want true", a, b)
		}
		i := random(len(b))
		if fewer := slices.Delete(slices.Clone(b), i, i+1); bag.Equal(a, fewer) || bag.Equal(fewer, a) {
			t.Fatalf("P8.1: Equal(%v, %v) = true, want false", a, fewer)
		}
		b[i].Lineage = append(b[i].Lineage, 77)
		if bag.Equal(a, b) || bag.Equal(b, a) {
			t.Fatalf("P8.1: Equal(%v, %v) = true, want false", a, b)
		}
	}
}

func TestMergeLineage(t *testing.T) {
	tests := []struct{ a, b, want []int }{
		{nil, nil, nil},
		{ids(), nil, nil},
		{ids(4), nil, ids(4)},
		{ids(4), ids(4), ids(4)},
		{ids(5), ids(4), ids(4, 5)},
		{ids(1, 3), ids(2, 3), ids(1, 2, 3)},
		{ids(1, 2, 3), ids(1, 2, 3), ids(1, 2, 3)},
		{ids(1, 2), ids(10, 20), ids(1, 2, 10, 20)},
		{ids(1, 4, 9), ids(2, 4, 7, 11), ids(1, 2, 4, 7, 9, 11)},
		// Slices that are no lineages.
		{ids(3, 1, 2), nil, ids(1, 2, 3)},
		{ids(2, 2, 2), ids(2, 2), ids(2)},
		{ids(7, 1, 7), ids(9, 1, 9, 3), ids(1, 3, 7, 9)},
		{ids(0, -1), ids(-2, 0), ids(-2, -1, 0)},
		{ids(math.MaxInt, math.MinInt), ids(math.MinInt, 0, math.MaxInt), ids(math.MinInt, 0, math.MaxInt)},
		{ids(1<<32+1, 1), ids(1 << 32), ids(1, 1<<32, 1<<32+1)},
	}
	for _, x := range tests {
		for _, got := range [][]int{bag.MergeLineage(x.a, x.b), bag.MergeLineage(x.b, x.a)} {
			if !slices.Equal(got, x.want) {
				t.Errorf("P8.2: MergeLineage of %v and %v = %v, want %v", x.a, x.b, got, x.want)
			}
		}
	}
}

func TestMergeLineageAgreesWithTheElements(t *testing.T) {
	vocabulary := ids(-4, 0, 1, 6)
	all := slicesOf(vocabulary, 4)
	for _, a := range all {
		for _, b := range all {
			var want []int
			for _, id := range vocabulary {
				if slices.Contains(a, id) || slices.Contains(b, id) {
					want = append(want, id)
				}
			}
			if got := bag.MergeLineage(a, b); !slices.Equal(got, want) {
				t.Fatalf("P8.2: MergeLineage(%v, %v) = %v, want %v", a, b, got, want)
			}
		}
	}
}

func TestMultiplicity(t *testing.T) {
	some := rows(one(1, 1), one(2, 1), row(nil), one(1), row(vals(num(1), null)), one(1, 1), row(nil, 5), row(vals(text("1"))), row(vals(null)),
		row(vals(api.Value{Kind: api.Int, N: 1, S: "a"})), row(vals(api.Value{Kind: 9})))
	tests := []struct {
		rows []api.Row
		vals []api.Value
		want int
	}{
		{nil, nil, 0}, {nil, vals(num(1)), 0}, {rows(), nil, 0}, {rows(row(nil)), nil, 1}, {rows(row(vals())), nil, 1}, {rows(row(nil)), vals(), 1},
		{some, nil, 2}, {some, vals(num(1)), 3}, {some, vals(num(2)), 1}, {some, vals(num(3)), 0}, {some, vals(num(1), null), 1}, {some, vals(null), 1},
		{some, vals(text("1")), 1}, {some, vals(yes), 0}, {some, vals(num(1), null, null), 0}, {some, vals(null, null), 0}, {some, vals(null, num(1)), 0},
		{some, vals(api.Value{Kind: api.Int, N: 1, S: "a"}), 1}, {some, vals(api.Value{Kind: 9}), 1}, {some, vals(api.Value{Kind: 9, N: 1}), 0},
		{slices.Repeat(some, 1000), vals(num(1)), 3000},
	}
	for _, x := range tests {
		if got := bag.Multiplicity(x.rows, x.vals); got != x.want {
			t.Errorf("P8.2: Multiplicity of %v in %d rows = %d, want %d", x.vals, len(x.rows), got, x.want)
		}
	}
}

func TestMultiplicityAgreesWithTheDefinition(t *testing.T) {
	for _, bagOfRows := range slicesOf(few(), 4) {
		for _, r := range few() {
			want := count(bagOfRows, func(other api.Row) bool { return value.CompareRows(other.Vals, r.Vals) == 0 })
			if got := bag.Multiplicity(bagOfRows, r.Vals); got != want {
				t.Fatalf("P8.2: Multiplicity(%v, %v) = %d, want %d", bagOfRows, r.Vals, got, want)
			}
		}
	}
}

func TestDiff(t *testing.T) {
	tests := []struct{ a, b, lost, gained []api.Row }{
		{nil, nil, nil, nil},
		{rows(one(1, 1)), nil, rows(one(1, 1)), nil},
		{rows(one(1, 1)), rows(one(1, 1)), nil, nil},
		// The lineage does not matter.
		{rows(one(1, 1)), rows(one(1, 2)), nil, nil},
		{rows(one(1)), rows(one(1, 2, 3)), nil, nil},
		{rows(one(1, 1)), rows(one(2, 1)), rows(one(1, 1)), rows(one(2, 1))},
		{rows(one(1), one(2)), rows(one(2), one(1)), nil, nil},
		// The last rows are the excess, also if the first ones have a lineage in
		// common with the other bag or are not part of it.
		{rows(one(1, 3), one(1, 1), one(1, 2)), rows(one(1, 9)), rows(one(1, 2), one(1, 3)), nil},
		{rows(one(1, 3), one(1, 1), one(1, 2)), rows(one(1, 3)), rows(one(1, 2), one(1, 3)), nil},
		{rows(one(1, 3), one(1, 1), one(1, 2)), rows(one(1, 3), one(1, 2)), rows(one(1, 3)), nil},
		{rows(one(1, 7)), rows(one(1, 7), one(1, 8), one(1, 6)), nil, rows(one(1, 7), one(1, 8))},
		{rows(one(1, 2), one(1, 1, 5), one(1)), rows(one(1)), rows(one(1, 1, 5), one(1, 2)), nil},
		{rows(one(1, 4), one(1, 4), one(1, 4)), rows(one(1, 4)), rows(one(1, 4), one(1, 4)), nil},
		// Values of which one is a prefix of the other.
		{rows(row(vals(num(1), null), 1)), rows(one(1, 1)), rows(row(vals(num(1), null), 1)), rows(one(1, 1))},
		{rows(row(nil, 1), one(1, 1)), rows(one(1, 2), row(nil, 2), row(nil, 1)), nil, rows(row(nil, 2))},
		// Both bags exceed the other one, before, between and behind it.
		{rows(one(5, 1), one(3, 1), one(1, 1)), rows(one(4, 1), one(2, 1), one(6, 1)), rows(one(1, 1), one(3, 1), one(5, 1)), rows(one(2, 1), one(4, 1), one(6, 1))},
		{rows(one(3, 2), one(3, 1), one(1, 2), one(1, 1)), rows(one(2, 2), one(2, 1), one(3, 9)), rows(one(1, 1), one(1, 2), one(3, 2)), rows(one(2, 1), one(2, 2))},
		{rows(row(vals(api.Value{Kind: 9}), 2), row(vals(api.Value{Kind: 9}), 1)), rows(row(vals(api.Value{Kind: 9, N: 1}))),
			rows(row(vals(api.Value{Kind: 9}), 1), row(vals(api.Value{Kind: 9}), 2)), rows(row(vals(api.Value{Kind: 9, N: 1})))},
	}
	for _, x := range tests {
		checkDiff(t, x.a, x.b, x.lost, x.gained)
		checkDiff(t, x.b, x.a, x.gained, x.lost)
	}
}

func TestDiffAgreesWithTheDefinition(t *testing.T) {
	vocabularies := [][]api.Row{
		rows(one(1, 2), one(1, 1), one(2, 1)),
		rows(row(nil, 3), row(vals(null), 2), row(nil, 1)),
		rows(one(1, 3), one(1, 1, 2), one(1)),
	}
	for _, vocabulary := range vocabularies {
		all := slicesOf(vocabulary, 4)
		for _, a := range all {
			for _, b := range all {
				checkDiff(t, a, b, wantExcess(a, b), wantExcess(b, a))
			}
		}
	}
}

func TestDiffOfManyRows(t *testing.T) {
	random := pseudoRandom()
	all := slices.Concat(emptyRows(), ascending())
	for range 200 {
		a, b := shuffled(repeated(all, random), random), shuffled(repeated(all, random), random)
		checkDiff(t, a, b, wantExcess(a, b), wantExcess(b, a))
	}
}

// Diff returns two empty slices exactly if the bags agree when the lineage of
// every row is left out.
func TestDiffOfBagsThatAgree(t *testing.T) {
	withoutLineage := func(all []api.Row) []api.Row {
		var plain []api.Row
		for _, r := range all {
			plain = append(plain, row(r.Vals))
		}
		return plain
	}
	all := slicesOf(few(), 3)
	for _, a := range all {
		for _, b := range all {
			lost, gained := bag.Diff(a, b)
			agree := wantEqual(withoutLineage(a), withoutLineage(b))
			if (len(lost) == 0 && len(gained) == 0) != agree {
				t.Fatalf("P8.4: Diff(%v, %v) = %v, %v, but the bags agree: %v", a, b, lost, gained, agree)
			}
		}
	}
}

// The values that are lost and gained account for the difference of the bags.
func TestDiffMultiplicities(t *testing.T) {
	all := slicesOf(few(), 3)
	for _, a := range all {
		for _, b := range all {
			lost, gained := bag.Diff(a, b)
			for _, r := range few() {
				m, n := bag.Multiplicity(a, r.Vals), bag.Multiplicity(b, r.Vals)
				if bag.Multiplicity(lost, r.Vals) != max(m-n, 0) || bag.Multiplicity(gained, r.Vals) != max(n-m, 0) {
					t.Fatalf("P8.3: Diff(%v, %v) = %v, %v", a, b, lost, gained)
				}
			}
		}
	}
}

// A nil slice and an empty slice are the same, as an argument and within a row.
func TestNilAndEmptySlices(t *testing.T) {
	bare, empty := api.Row{}, api.Row{Vals: []api.Value{}, Lineage: []int{}}
	if !bag.Equal(nil, rows()) || !bag.Equal(rows(bare), rows(empty)) || !bag.Equal(rows(bare, empty, empty), rows(bare, bare, empty)) {
		t.Error("P8.1: Equal tells nil and empty slices apart")
	}
	if got := bag.Sort(rows(empty, one(1), bare)); !sameRows(got, rows(bare, bare, one(1))) {
		t.Errorf("P8.1: Sort = %v", got)
	}
	if bag.Multiplicity(rows(bare, empty), nil) != 2 || bag.Multiplicity(rows(bare, empty), vals()) != 2 {
		t.Error("P8.2: Multiplicity tells nil and empty slices apart")
	}
	checkDiff(t, rows(bare, empty), rows(empty, bare), nil, nil)
	checkDiff(t, rows(bare, empty), rows(), rows(bare, bare), nil)
	checkDiff(t, rows(), rows(row(vals(null)), empty), nil, rows(bare, row(vals(null))))
}

// The arguments are left as they are, also what lies behind them in memory.
func TestArgumentsAreNotChanged(t *testing.T) {
	a := rows(one(3, 9, 4), one(1, 5), one(2, 3), one(1, 1), one(0), one(-1))
	b := rows(one(3, 2), one(2, 8), one(1, 7), one(9, 9, 1), one(-5), one(-6))
	lineageA, lineageB, needle := ids(7, 3, 3, 0, 0), ids(3, 9, 1, 0, 0), vals(num(1), null)
	keptA, keptB := copied(a), copied(b)
	checkKept := func(name string) {
		t.Helper()
		if !sameRows(a, keptA) || !sameRows(b, keptB) {
			t.Fatalf("P8.1 to P8.3: %s changed its arguments to %v, %v", name, a, b)
		}
	}
	bag.Sort(a[:4])
	checkKept("Sort")
	bag.Equal(a[:4], b[:4])
	checkKept("Equal")
	bag.Multiplicity(a[:4], needle[:1])
	checkKept("Multiplicity")
	bag.Diff(a[:4], b[:4])
	checkKept("Diff")
	bag.MergeLineage(lineageA[:3], lineageB[:3])
	if !slices.Equal(lineageA, ids(7, 3, 3, 0, 0)) || !slices.Equal(lineageB, ids(3, 9, 1, 0, 0)) || !slices.Equal(needle, vals(num(1), null)) {
		t.Fatalf("P8.2: MergeLineage or Multiplicity changed its arguments to %v, %v, %v", lineageA, lineageB, needle)
	}
}

// overwrite changes all the memory of a row's values and lineage.
func overwrite(r api.Row) {
	for i := range r.Vals[:cap(r.Vals)] {
		r.Vals[:cap(r.Vals)][i] = text("changed")
	}
	for i := range r.Lineage[:cap(r.Lineage)] {
		r.Lineage[:cap(r.Lineage)][i] = -7
	}
}

// The rows of a result share no memory, neither with the rows of the arguments
// nor with one another, even where the rows of the arguments share theirs.
func TestResultsAreNewMemory(t *testing.T) {
	values, lineage := vals(num(1), text("a"), null), ids(1, 2, 3)
	shared := row(values[:2], lineage[:2]...)
	other := row(values[:1], lineage[:1]...)
	checkNew := func(result, want []api.Row) {
		t.Helper()
		if !sameRows(result, want) {
			t.Fatalf("P8.1, P8.3: the result is %v, want %v", result, want)
		}
		wanted := copied(want)
		for i, r := range result {
			overwrite(r)
			if !slices.Equal(values, vals(num(1), text("a"), null)) || !slices.Equal(lineage, ids(1, 2, 3)) {
				t.Fatalf("P8.1, P8.3: a change of row %d changed an argument", i)
			}
			if !sameRows(result[i+1:], wanted[i+1:]) {
				t.Fatalf("P8.1, P8.3: a change of row %d changed another row to %v", i, result[i+1:])
			}
		}
	}
	a := rows(shared, shared, other)
	checkNew(bag.Sort(a), rows(other, shared, shared))
	checkNew(bag.Sort(bag.Sort(a)), rows(other, shared, shared))
	lost, gained := bag.Diff(a, nil)
	checkNew(slices.Concat(lost, gained), rows(other, shared, shared))
	lost, gained = bag.Diff(nil, a)
	checkNew(slices.Concat(lost, gained), rows(other, shared, shared))
	// Rows of both results whose values lie in the same memory.
	b, whole := rows(other, row(values, lineage...)), row(vals(num(1), text("a"), null), 1, 2, 3)
	lost, gained = bag.Diff(a, b)
	checkNew(slices.Concat(lost, gained), rows(shared, shared, whole))
	lost, gained = bag.Diff(b, a)
	checkNew(slices.Concat(gained, lost), rows(shared, shared, whole))
	if clear(a); !sameRows(bag.Sort(rows(shared, other)), rows(other, shared)) {
		t.Fatal("P8.1: a result depends on an earlier argument")
	}
}

func TestMergeLineageIsNewMemory(t *testing.T) {
	a, b := ids(1, 2, 3), ids(1, 2, 3)
	for _, merged := range [][]int{bag.MergeLineage(a, nil), bag.MergeLineage(nil, a), bag.MergeLineage(a, b), bag.MergeLineage(a, a), bag.MergeLineage(a, a[:1])} {
		if !slices.Equal(merged, ids(1, 2, 3)) {
			t.Fatalf("P8.2: MergeLineage = %v, want [1 2 3]", merged)
		}
		clear(merged[:cap(merged)])
		if !slices.Equal(a, ids(1, 2, 3)) || !slices.Equal(b, ids(1, 2, 3)) {
			t.Fatal("P8.2: a change of a merged lineage changed an argument")
		}
	}
}

// Bags of many rows, most of which have equal values.
func TestLargeBags(t *testing.T) {
	const n = 100_000
	long := text(strings.Repeat("a", api.MaxText))
	var a, b []api.Row
	for i := range n {
		id := (i * 77_777) % n
		a = append(a, row(vals(long, num(int64(id%3))), id))
		b = append(b, row(vals(long, num(int64(id%3))), n-1-id, n))
	}
	if bag.Equal(a, b) || !bag.Equal(a, bag.Sort(a)) {
		t.Error("P8.1: Equal of large bags")
	}
	for i, r := range bag.Sort(a)[:n/3] {
		if !sameRow(r, row(vals(long, num(0)), 3*i)) {
			t.Fatalf("P8.1: row %d is %v", i, r)
		}
	}
	checkDiff(t, a, b, nil, nil)
	checkDiff(t, slices.Concat(a, rows(row(vals(long, num(1)), n))), b, rows(row(vals(long, num(1)), n)), nil)
	if got := bag.Multiplicity(a, vals(long, num(2))); got != n/3 {
		t.Errorf("P8.2: Multiplicity = %d, want %d", got, n/3)
	}
}

// The chapter's example.
func TestExamples(t *testing.T) {
	if got := bag.MergeLineage(ids(1, 3), ids(2, 3)); !slices.Equal(got, ids(1, 2, 3)) {
		t.Errorf("P8.2: MergeLineage = %v, want [1 2 3]", got)
	}
}
