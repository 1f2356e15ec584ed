package tuple_test

import (
	"math"
	"slices"
	"strings"
	"testing"

	"annalist/api"
	"annalist/bag"
	"annalist/tuple"
)

func TestValidOfPeriods(t *testing.T) {
	tests := []struct {
		valid api.Period
		want  bool
	}{
		{p(0, 1), true}, {p(0, 5), true}, {p(4, 5), true}, {p(0, api.Forever), true}, {p(api.Forever-1, api.Forever), true},
		{p(0, api.Forever+1), false}, {p(0, api.UntilChanged), false}, {p(api.Forever, api.Forever+1), false}, {p(5, api.UntilChanged), false},
	}
	for _, x := range tests {
		if got := tuple.Valid(fact(1, x.valid, 1, 2)); got != x.want {
			t.Errorf("P10.1: Valid during %v = %v, want %v", x.valid, got, x.want)
		}
	}
	for _, valid := range invalidPeriods() {
		if tuple.Valid(fact(1, valid, 1, 2)) {
			t.Errorf("P10.1: Valid during %v = true", valid)
		}
	}
	if tuple.Valid(api.Tuple{}) {
		t.Error("P10.1: Valid of a tuple of zeros = true")
	}
}

func TestValidOfValues(t *testing.T) {
	longest := strings.Repeat("a", api.MaxText)
	valid := [][]api.Value{nil, vals(), vals(null), vals(num(math.MinInt64)), vals(text("")), vals(text(longest)), vals(no, yes, null, num(3), text("\xff"))}
	for _, v := range valid {
		if !tuple.Valid(during(row(v, 1), p(0, 5))) {
			t.Errorf("P10.1: Valid with the values %v = false", v)
		}
	}
	invalid := []api.Value{
		{Kind: -1}, {Kind: 4}, {Kind: 1 << 32}, {Kind: api.Null, N: 1}, {Kind: api.Null, S: "a"}, {Kind: api.Int, S: "a"},
		{Kind: api.Text, N: 1}, {Kind: api.Text, S: longest + "a"}, {Kind: api.Bool, N: 2}, {Kind: api.Bool, N: -1}, {Kind: api.Bool, S: "a"},
	}
	for _, v := range invalid {
		for _, all := range [][]api.Value{vals(v), vals(v, null, num(1)), vals(num(1), v, null), vals(num(1), null, v)} {
			if tuple.Valid(during(row(all, 1), p(0, 5))) {
				t.Errorf("P10.1: Valid with the values %v = true", all)
			}
		}
	}
}

func TestValidOfLineages(t *testing.T) {
	tests := []struct {
		lineage []int
		want    bool
	}{
		{nil, true}, {ids(), true}, {ids(7), true}, {ids(0), true}, {ids(-5), true}, {ids(math.MinInt, math.MaxInt), true}, {ids(-1, 0, 1), true},
		{ids(math.MaxInt, math.MinInt), false}, {ids(1, 2, 3, 3), false}, {ids(1, 1, 2, 3), false}, {ids(1, 3, 2), false}, {ids(2, 1), false}, {ids(1<<32, 1), false},
	}
	for _, x := range tests {
		if got := tuple.Valid(fact(1, p(0, 5), x.lineage...)); got != x.want {
			t.Errorf("P10.1: Valid with the lineage %v = %v, want %v", x.lineage, got, x.want)
		}
	}
	for _, lineage := range slicesOf(ids(-1, 0, 1, 5), 4) {
		want := slices.Equal(bag.MergeLineage(lineage, nil), lineage)
		if got := tuple.Valid(fact(1, p(0, 5), lineage...)); got != want {
			t.Errorf("P10.1: Valid with the lineage %v = %v, want %v", lineage, got, want)
		}
	}
}

func TestFromRows(t *testing.T) {
	all := slices.Concat(rows(one(2, 7), one(1), one(2, 7), one(1)), strangeRows())
	for _, valid := range []api.Period{p(0, 1), p(3, 9), p(0, api.Forever), p(5, api.Forever+1), p(0, api.UntilChanged), p(api.UntilChanged-1, api.UntilChanged)} {
		var want []api.Tuple
		for _, r := range all {
			want = append(want, during(r, valid))
		}
		if got := tuple.FromRows(all, valid); !same(got, want) {
			t.Errorf("P10.2: FromRows(%v, %v) = %v", all, valid, got)
		}
		if got := tuple.FromRows(nil, valid); len(got) != 0 {
			t.Errorf("P10.2: FromRows(nil, %v) = %v", valid, got)
		}
		if got := tuple.FromRows(rows(), valid); len(got) != 0 {
			t.Errorf("P10.2: FromRows of an empty slice, %v = %v", valid, got)
		}
	}
	for _, valid := range invalidPeriods() {
		if got := tuple.FromRows(all, valid); len(got) != 0 {
			t.Errorf("P10.2: FromRows during %v = %v", valid, got)
		}
	}
}

func TestTimeslice(t *testing.T) {
	some := tuples(
		fact(2, p(3, 6), 7), fact(1, p(3, api.UntilChanged)), fact(2, p(0, 4), 1, 9), fact(1, p(5, 6)), fact(0, p(6, api.Forever), 8), fact(1, p(3, 4)),
		during(row(vals(num(1), null), 2), p(3, 6)), during(row(nil, 4), p(4, 5)),
	)
	tests := []struct {
		at   int
		want []api.Row
	}{
		{-1, nil},
		{0, rows(one(2, 1, 9))},
		{2, rows(one(2, 1, 9))},
		// A period includes its start and not its end.
		{3, rows(one(1), one(1), row(vals(num(1), null), 2), one(2, 1, 9), one(2, 7))},
		{4, rows(row(nil, 4), one(1), row(vals(num(1), null), 2), one(2, 7))},
		{5, rows(one(1), one(1), row(vals(num(1), null), 2), one(2, 7))},
		{6, rows(one(0, 8), one(1))},
		{api.Forever - 1, rows(one(0, 8), one(1))},
		{api.Forever, rows(one(1))},
		{api.UntilChanged - 1, rows(one(1))},
		{api.UntilChanged, nil}, {math.MaxInt, nil}, {math.MinInt, nil},
	}
	for _, x := range tests {
		if got := tuple.Timeslice(some, x.at); !sameRows(got, x.want) {
			t.Errorf("P10.2: Timeslice at %d = %v, want %v", x.at, got, x.want)
		}
		if got := tuple.Timeslice(nil, x.at); len(got) != 0 {
			t.Errorf("P10.2: Timeslice of nothing at %d = %v", x.at, got)
		}
	}
}

// A tuple with an invalid period holds at no time, also not at a point between
// its ends.
func TestTimesliceOfInvalidPeriods(t *testing.T) {
	some := tuples(fact(1, p(0, api.UntilChanged), 1))
	for _, valid := range invalidPeriods() {
		some = append(some, fact(2, valid, 2))
	}
	for _, at := range []int{0, 2, 3, 4, api.Forever, api.UntilChanged - 1} {
		if got := tuple.Timeslice(some, at); !sameRows(got, rows(one(1, 1))) {
			t.Errorf("P10.2: Timeslice at %d = %v, want the valid tuple alone", at, got)
		}
	}
	for _, at := range []int{-1, -5, math.MinInt, api.UntilChanged, math.MaxInt} {
		if got := tuple.Timeslice(some, at); len(got) != 0 {
			t.Errorf("P10.2: Timeslice at %d = %v", at, got)
		}
	}
}

func TestTimesliceAgreesWithTheDefinition(t *testing.T) {
	random := pseudoRandom()
	for range 500 {
		some := someTuples(strangeRows(), 30, 8, random)
		for at := -1; at <= 8; at++ {
			if got, want := tuple.Timeslice(some, at), wantTimeslice(some, at); !sameRows(got, want) {
				t.Fatalf("P10.2: Timeslice(%v, %d) = %v, want %v", some, at, got, want)
			}
		}
	}
}

// The timeslice of tuples made of rows is the bag of these rows.
func TestTimesliceOfRows(t *testing.T) {
	all := slices.Concat(strangeRows(), strangeRows())
	some := tuple.FromRows(shuffled(all, pseudoRandom()), p(2, 5))
	for at := range 7 {
		want := bag.Sort(all)
		if at < 2 || at >= 5 {
			want = nil
		}
		if got := tuple.Timeslice(some, at); !sameRows(got, want) {
			t.Errorf("P10.2: Timeslice at %d = %v, want %v", at, got, want)
		}
	}
}

func TestBoundaries(t *testing.T) {
	tests := []struct {
		tuples []api.Tuple
		want   []int
	}{
		{nil, nil}, {tuples(), nil}, {tuples(fact(1, p(4, 4))), nil},
		{tuples(fact(1, p(0, 1))), ids(0, 1)},
		{tuples(fact(1, p(3, 7)), fact(1, p(3, 7)), fact(2, p(7, 9))), ids(3, 7, 9)},
		{tuples(fact(1, p(10, 20)), fact(1, p(9, 11)), fact(1, p(2, 100))), ids(2, 9, 10, 11, 20, 100)},
		{tuples(fact(1, p(5, 9)), fact(1, p(0, 5))), ids(0, 5, 9)},
		// Only the periods matter.
		{tuples(during(row(vals(api.Value{Kind: 9}), 2, 1), p(8, 9)), during(row(nil), p(2, 3))), ids(2, 3, 8, 9)},
		{tuples(fact(1, p(api.Forever, api.UntilChanged)), fact(1, p(0, api.Forever)), fact(1, p(1, api.Forever+1))), ids(0, 1, api.Forever, api.Forever+1, api.UntilChanged)},
	}
	for _, x := range tests {
		if got := tuple.Boundaries(x.tuples); !slices.Equal(got, x.want) {
			t.Errorf("P10.2: Boundaries(%v) = %v, want %v", x.tuples, got, x.want)
		}
	}
	for _, valid := range invalidPeriods() {
		if got := tuple.Boundaries(tuples(fact(1, valid), fact(1, p(2, 6)), fact(2, valid))); !slices.Equal(got, ids(2, 6)) {
			t.Errorf("P10.2: Boundaries with %v = %v, want [2 6]", valid, got)
		}
	}
}

func TestBoundariesAgreeWithTheDefinition(t *testing.T) {
	random := pseudoRandom()
	for range 500 {
		some := someTuples(strangeRows(), 6, 12, random)
		var want []int
		for point := range 13 {
			if slices.ContainsFunc(some, func(u api.Tuple) bool {
				return u.Valid.From < u.Valid.To && (u.Valid.From == point || u.Valid.To == point)
			}) {
				want = append(want, point)
			}
		}
		if got := tuple.Boundaries(some); !slices.Equal(got, want) {
			t.Fatalf("P10.2: Boundaries(%v) = %v, want %v", some, got, want)
		}
	}
}

func checkNormalize(t *testing.T, in, want []api.Tuple) {
	t.Helper()
	if got := tuple.Normalize(in); !same(got, want) {
		t.Fatalf("P10.3: Normalize(%v) = %v, want %v", in, got, want)
	}
}

func TestNormalize(t *testing.T) {
	tests := []struct{ tuples, want []api.Tuple }{
		{nil, nil}, {tuples(), nil},
		{tuples(fact(1, p(2, 5), 3)), tuples(fact(1, p(2, 5), 3))},
		// Tuples that overlap, meet, contain one another, or leave a gap.
		{tuples(fact(1, p(3, 9)), fact(1, p(0, 5))), tuples(fact(1, p(0, 9)), fact(1, p(3, 5)))},
		{tuples(fact(1, p(5, 9)), fact(1, p(0, 5))), tuples(fact(1, p(0, 9)))},
		{tuples(fact(1, p(2, 3)), fact(1, p(0, 5))), tuples(fact(1, p(0, 5)), fact(1, p(2, 3)))},
		{tuples(fact(1, p(6, 9)), fact(1, p(0, 5))), tuples(fact(1, p(0, 5)), fact(1, p(6, 9)))},
		{tuples(fact(1, p(0, 5)), fact(1, p(0, 5)), fact(1, p(0, 5))), tuples(fact(1, p(0, 5)), fact(1, p(0, 5)), fact(1, p(0, 5)))},
		// With equal starts, the shorter period comes first.
		{tuples(fact(1, p(0, 9)), fact(1, p(0, 5))), tuples(fact(1, p(0, 5)), fact(1, p(0, 9)))},
		// A level goes on where one tuple takes the place of another.
		{tuples(fact(1, p(0, 5)), fact(1, p(0, 5)), fact(1, p(5, 9)), fact(1, p(5, 7))), tuples(fact(1, p(0, 7)), fact(1, p(0, 9)))},
		{tuples(fact(1, p(0, 4)), fact(1, p(2, 6)), fact(1, p(4, 8)), fact(1, p(6, 9))), tuples(fact(1, p(0, 9)), fact(1, p(2, 8)))},
		{tuples(fact(1, p(0, 9)), fact(1, p(1, 3)), fact(1, p(3, 5)), fact(1, p(6, 7))), tuples(fact(1, p(0, 9)), fact(1, p(1, 5)), fact(1, p(6, 7)))},
		// Several tuples end where fewer or more begin.
		{tuples(fact(1, p(0, 4)), fact(1, p(1, 4)), fact(1, p(2, 4)), fact(1, p(4, 6))), tuples(fact(1, p(0, 6)), fact(1, p(1, 4)), fact(1, p(2, 4)))},
		{tuples(fact(1, p(0, 4)), fact(1, p(4, 5)), fact(1, p(4, 6)), fact(1, p(4, 7))), tuples(fact(1, p(0, 7)), fact(1, p(4, 5)), fact(1, p(4, 6)))},
		// A value that changed and later changed back.
		{tuples(fact(1, p(0, 3), 1), fact(2, p(3, 5), 2), fact(1, p(5, 8), 3)), tuples(fact(1, p(0, 3), 1), fact(1, p(5, 8), 3), fact(2, p(3, 5), 2))},
		{tuples(fact(1, p(0, 3), 1), fact(1, p(3, 8), 2)), tuples(fact(1, p(0, 3), 1), fact(1, p(3, 8), 2))},
		{tuples(fact(1, p(0, 3), 1), fact(1, p(2, 8), 1, 2), fact(1, p(3, 4), 1)), tuples(fact(1, p(0, 4), 1), fact(1, p(2, 8), 1, 2))},
		// The rows decide before the periods do.
		{tuples(fact(2, p(0, 3), 1), fact(1, p(4, 6), 2), fact(1, p(8, 9), 1)), tuples(fact(1, p(8, 9), 1), fact(1, p(4, 6), 2), fact(2, p(0, 3), 1))},
		{tuples(during(row(nil, 9), p(5, 6)), during(row(vals(null)), p(2, 3)), fact(10, p(1, 2)), fact(2, p(0, 1))),
			tuples(during(row(nil, 9), p(5, 6)), during(row(vals(null)), p(2, 3)), fact(2, p(0, 1)), fact(10, p(1, 2)))},
		// Periods of instants.
		{tuples(fact(1, p(api.Forever, api.UntilChanged)), fact(1, p(0, api.Forever)), fact(1, p(api.Forever-1, api.Forever+1))),
			tuples(fact(1, p(0, api.UntilChanged)), fact(1, p(api.Forever-1, api.Forever+1)))},
		{tuples(fact(1, p(0, api.UntilChanged)), fact(1, p(api.UntilChanged-1, api.UntilChanged))),
			tuples(fact(1, p(0, api.UntilChanged)), fact(1, p(api.UntilChanged-1, api.UntilChanged)))},
	}
	for _, x := range tests {
		checkNormalize(t, x.tuples, x.want)
	}
}

// Tuples with an invalid period do not add to the normal form, also not where
// they overlap or join valid ones.
func TestNormalizeOfInvalidPeriods(t *testing.T) {
	for _, valid := range invalidPeriods() {
		checkNormalize(t, tuples(fact(1, valid)), nil)
		checkNormalize(t, tuples(fact(1, p(4, 6)), fact(1, valid), fact(2, valid), fact(1, p(0, 3)), fact(1, valid)), tuples(fact(1, p(0, 3)), fact(1, p(4, 6))))
	}
}

// Tuples with invalid values and lineages are compared and kept as they are.
func TestNormalizeOfInvalidRows(t *testing.T) {
	var in, want []api.Tuple
	for _, r := range slices.Backward(strangeRows()) {
		in = append(in, during(r, p(5, 7)), during(r, p(8, 9)), during(r, p(3, 6)))
	}
	for _, r := range strangeRows() {
		want = append(want, during(r, p(3, 7)), during(r, p(5, 6)), during(r, p(8, 9)))
	}
	checkNormalize(t, in, want)
}

// smallRelations returns all relations of at most four tuples of one row during
// four points, and of at most three tuples of three rows.
func smallRelations() [][]api.Tuple {
	var single, several []api.Tuple
	for _, valid := range periodsOf(4) {
		single = append(single, fact(1, valid, 1))
	}
	for _, valid := range periodsOf(3) {
		several = append(several, fact(1, valid, 1), fact(1, valid, 2), fact(2, valid, 1))
	}
	return slices.Concat(slicesOf(single, 4), slicesOf(several, 3))
}

func TestNormalizeAgreesWithTheDefinition(t *testing.T) {
	for _, some := range smallRelations() {
		checkNormalize(t, some, wantNormal(some, 4))
	}
	random := pseudoRandom()
	for range 1000 {
		few := shuffled(strangeRows(), random)[:1+random(6)]
		some := someTuples(few, 25, 10, random)
		checkNormalize(t, some, wantNormal(some, 10))
	}
}

// Only the order of the ends matters, so the normal form at the limits is that of
// small points.
func TestNormalizeAtTheLimits(t *testing.T) {
	points := ids(0, 1, api.Forever-1, api.Forever, api.Forever+1, 1<<32, api.UntilChanged-1, api.UntilChanged)
	moved := func(some []api.Tuple) []api.Tuple {
		var all []api.Tuple
		for _, u := range some {
			all = append(all, during(rowOf(u), p(points[u.Valid.From], points[u.Valid.To])))
		}
		return all
	}
	random := pseudoRandom()
	for range 1000 {
		some := someTuples(rows(one(1, 1), one(1, 2)), 12, len(points)-1, random)
		checkNormalize(t, moved(some), moved(wantNormal(some, len(points)-1)))
	}
}

func TestEquivalent(t *testing.T) {
	// Each relation is equivalent to those of its own line only.
	relations := [][][]api.Tuple{
		{nil, tuples(), tuples(fact(1, p(5, 5))), tuples(fact(1, p(-1, 5)), fact(2, p(9, 2)))},
		{tuples(fact(1, p(0, 9))), tuples(fact(1, p(0, 4)), fact(1, p(4, 9))), tuples(fact(1, p(4, 9)), fact(2, p(3, 3)), fact(1, p(3, 4)), fact(1, p(0, 3)))},
		{tuples(fact(1, p(0, 9)), fact(1, p(0, 9)))},
		{tuples(fact(1, p(0, 9)), fact(1, p(3, 5))), tuples(fact(1, p(0, 5)), fact(1, p(3, 9))), tuples(fact(1, p(3, 9)), fact(1, p(4, 5)), fact(1, p(0, 4)))},
		{tuples(fact(1, p(0, 9), 1))},
		{tuples(fact(1, p(0, 9), 1, 2))},
		{tuples(fact(1, p(0, 9), 2, 1))},
		{tuples(fact(1, p(0, 4), 1), fact(1, p(4, 9), 2))},
		{tuples(fact(2, p(0, 9)))},
		{tuples(fact(1, p(0, 8)))},
		{tuples(fact(1, p(1, 9)))},
		{tuples(fact(1, p(0, 4)), fact(1, p(5, 9)))},
		{tuples(fact(1, p(0, 9)), fact(2, p(0, 9))), tuples(fact(2, p(0, 9)), fact(1, p(0, 9)))},
		{tuples(during(row(nil), p(0, 9)))},
		{tuples(during(row(vals(num(1), null)), p(0, 9)))},
		{tuples(during(row(vals(text("1"))), p(0, 9)))},
		{tuples(during(row(vals(api.Value{Kind: api.Int, N: 1, S: "a"})), p(0, 9)))},
		{tuples(fact(1, p(0, api.UntilChanged))), tuples(fact(1, p(api.Forever, api.UntilChanged)), fact(1, p(0, api.Forever)))},
		{tuples(fact(1, p(0, api.UntilChanged-1)))},
	}
	for i, line := range relations {
		for k, other := range relations {
			for _, a := range line {
				for _, b := range other {
					if got := tuple.Equivalent(a, b); got != (i == k) {
						t.Errorf("P10.3: Equivalent(%v, %v) = %v, want %v", a, b, got, i == k)
					}
				}
			}
		}
	}
}

func TestEquivalentAgreesWithTheDefinition(t *testing.T) {
	var some []api.Tuple
	for _, valid := range append(periodsOf(3), p(2, 2)) {
		some = append(some, fact(1, valid, 1))
	}
	for _, vocabulary := range [][]api.Tuple{some, tuples(fact(1, p(0, 2), 1), fact(1, p(1, 2), 1), fact(1, p(0, 1), 2), fact(2, p(0, 1), 1), fact(1, p(0, 1), 1))} {
		all := slicesOf(vocabulary, 3)
		for _, a := range all {
			for _, b := range all {
				if got, want := tuple.Equivalent(a, b), wantEquivalent(a, b, 3); got != want {
					t.Fatalf("P10.3: Equivalent(%v, %v) = %v, want %v", a, b, got, want)
				}
			}
		}
	}
}

// split returns the tuples, some of them as several pieces that meet.
func split(all []api.Tuple, random func(n int) int) []api.Tuple {
	var pieces []api.Tuple
	for _, u := range all {
		for u.Valid.To-u.Valid.From > 1 && random(3) > 0 {
			at := u.Valid.From + 1 + random(u.Valid.To-u.Valid.From-1)
			pieces = append(pieces, during(rowOf(u), p(u.Valid.From, at)))
			u.Valid.From = at
		}
		pieces = append(pieces, u)
	}
	return pieces
}

// A relation whose tuples are split and shuffled is snapshot equivalent, and any
// change at a single point makes a difference.
func TestEquivalentOfChangedRelations(t *testing.T) {
	random := pseudoRandom()
	for range 500 {
		a := append(someTuples(strangeRows(), 12, 9, random), fact(1, p(2, 5), 1))
		b := shuffled(copied(split(a, random)), random)
		if !tuple.Equivalent(a, b) || !tuple.Equivalent(b, a) || !same(tuple.Normalize(a), tuple.Normalize(b)) {
			t.Fatalf("P10.3: Equivalent(%v, %v) = false, want true", a, b)
		}
		i := slices.IndexFunc(b, func(u api.Tuple) bool { return u.Valid.From < u.Valid.To })
		longer, other := slices.Clone(b), slices.Clone(b)
		longer[i].Valid.To++
		other[i].Lineage = append(slices.Clone(other[i].Lineage), 77)
		for _, changed := range [][]api.Tuple{longer, other, slices.Delete(slices.Clone(b), i, i+1), append(slices.Clone(b), b[i])} {
			if tuple.Equivalent(a, changed) || tuple.Equivalent(changed, a) {
				t.Fatalf("P10.3: Equivalent(%v, %v) = true, want false", a, changed)
			}
		}
	}
}

// The normal form of a normal form is itself, and it has the same timeslices as
// the relation.
func TestNormalFormIsStable(t *testing.T) {
	random := pseudoRandom()
	all := smallRelations()
	for range 1000 {
		all = append(all, someTuples(shuffled(strangeRows(), random)[:4], 30, 9, random))
	}
	for _, some := range all {
		normal := tuple.Normalize(some)
		if got := tuple.Normalize(normal); !same(got, normal) {
			t.Fatalf("P10.4: the normal form of the normal form %v is %v", normal, got)
		}
		if !tuple.Equivalent(some, normal) || !wantEquivalent(some, normal, 9) {
			t.Fatalf("P10.4: %v is not snapshot equivalent to its normal form %v", some, normal)
		}
	}
}

// A nil slice and an empty slice are the same, as an argument and within a tuple.
func TestNilAndEmptySlices(t *testing.T) {
	bare, empty := api.Tuple{Valid: p(0, 5)}, api.Tuple{Vals: []api.Value{}, Valid: p(3, 9), Lineage: []int{}}
	if !tuple.Valid(bare) || !tuple.Valid(empty) {
		t.Error("P10.1: Valid = false")
	}
	want := tuples(during(row(nil), p(0, 9)), during(row(nil), p(3, 5)))
	checkNormalize(t, tuples(bare, empty), want)
	checkNormalize(t, tuples(empty, bare), want)
	if !tuple.Equivalent(tuples(bare, empty), want) || !tuple.Equivalent(nil, tuples()) {
		t.Error("P10.3: Equivalent tells nil and empty slices apart")
	}
}

// The arguments are left as they are, also what lies behind them in memory.
func TestArgumentsAreNotChanged(t *testing.T) {
	a := tuples(fact(3, p(5, 9), 9, 4), fact(1, p(2, 4), 5), fact(1, p(0, 2), 5), fact(1, p(4, 4), 1), fact(1, p(1, 3), 5), fact(0, p(0, 1)), fact(-1, p(0, 1)))
	r := rows(one(2, 5, 4), one(1, 3), one(0, 1))
	kept, keptRows := copied(a), bag.Sort(r)
	slices.Reverse(keptRows)
	check := func(name string) {
		t.Helper()
		if !same(a, kept) || !sameRows(r, keptRows) {
			t.Fatalf("P10.1 to P10.3: %s changed its arguments to %v, %v", name, a, r)
		}
	}
	tuple.Valid(a[0])
	check("Valid")
	tuple.FromRows(r[:2], p(0, 5))
	check("FromRows")
	tuple.Timeslice(a[:5], 2)
	check("Timeslice")
	tuple.Boundaries(a[:5])
	check("Boundaries")
	tuple.Normalize(a[:5])
	check("Normalize")
	tuple.Equivalent(a[:5], a[1:5])
	check("Equivalent")
}

// overwrite changes all the memory of a row's values and lineage.
func overwrite(r api.Row) {
	for i := range r.Vals[:cap(r.Vals)] {
		r.Vals[:cap(r.Vals)][i] = text("changed")
	}
	for i := range r.Lineage[:cap(r.Lineage)] {
		r.Lineage[:cap(r.Lineage)][i] = -7
	}
}

// The elements of a result share no memory, neither with the arguments nor with
// one another, even where the elements of the arguments share theirs.
func TestResultsAreNewMemory(t *testing.T) {
	values, lineage := vals(num(1), text("a"), null), ids(1, 2, 3)
	shared, other := row(values[:2], lineage[:2]...), row(values[:1], lineage[:1]...)
	check := func(result, want []api.Row) {
		t.Helper()
		if !sameRows(result, want) {
			t.Fatalf("P10.2, P10.3: the rows of the result are %v, want %v", result, want)
		}
		wanted := copied(tuple.FromRows(want, p(0, 1)))
		for i, r := range result {
			overwrite(r)
			if !slices.Equal(values, vals(num(1), text("a"), null)) || !slices.Equal(lineage, ids(1, 2, 3)) {
				t.Fatalf("P10.2, P10.3: a change of element %d changed an argument", i)
			}
			for k := i + 1; k < len(result); k++ {
				if !sameRow(result[k], rowOf(wanted[k])) {
					t.Fatalf("P10.2, P10.3: a change of element %d changed element %d to %v", i, k, result[k])
				}
			}
		}
	}
	rowsOf := func(some []api.Tuple) []api.Row {
		var all []api.Row
		for _, u := range some {
			all = append(all, rowOf(u))
		}
		return all
	}
	check(rowsOf(tuple.FromRows(rows(shared, shared, other), p(0, 5))), rows(shared, shared, other))
	some := tuples(during(shared, p(0, 5)), during(shared, p(3, 9)), during(other, p(3, 9)))
	check(tuple.Timeslice(some, 4), rows(other, shared, shared))
	check(rowsOf(tuple.Normalize(some)), rows(other, shared, shared))
	check(rowsOf(tuple.Normalize(tuple.Normalize(some))), rows(other, shared, shared))
	// A single tuple during several periods.
	check(rowsOf(tuple.Normalize(tuples(during(shared, p(7, 9)), during(shared, p(0, 5))))), rows(shared, shared))
	clear(some)
	check(rowsOf(tuple.Normalize(tuples(during(shared, p(0, 5)), during(other, p(0, 5))))), rows(other, shared))
}

func TestBoundariesAreNewMemory(t *testing.T) {
	some := tuples(fact(1, p(0, 5)), fact(1, p(5, 9)))
	points := tuple.Boundaries(some)
	clear(points[:cap(points)])
	if got := tuple.Boundaries(some); !slices.Equal(got, ids(0, 5, 9)) {
		t.Errorf("P10.2: Boundaries = %v after an earlier result was changed", got)
	}
}

// Many tuples of one row, which contain one another, follow each other, or leave
// gaps.
func TestLargeRelations(t *testing.T) {
	const n = 50_000
	var nested, meeting, apart, staggered, wantStaggered []api.Tuple
	for i := range n {
		k := (i * 7_777) % n
		nested = append(nested, fact(1, p(k, 2*n-k), 1))
		meeting = append(meeting, fact(1, p(k, k+1), 1))
		apart = append(apart, fact(1, p(2*k, 2*k+1), 1))
		staggered = append(staggered, fact(1, p(k, k+n), 1))
		wantStaggered = append(wantStaggered, fact(1, p(i, 2*n-1-i), 1))
	}
	wantNested := slices.Clone(nested)
	slices.SortFunc(wantNested, func(a, b api.Tuple) int { return a.Valid.From - b.Valid.From })
	wantApart := slices.Clone(apart)
	slices.SortFunc(wantApart, func(a, b api.Tuple) int { return a.Valid.From - b.Valid.From })
	tests := []struct{ tuples, want []api.Tuple }{
		{nested, wantNested}, {meeting, tuples(fact(1, p(0, n), 1))}, {apart, wantApart}, {staggered, wantStaggered},
	}
	for i, x := range tests {
		if !same(tuple.Normalize(x.tuples), x.want) || !tuple.Equivalent(x.tuples, x.want) {
			t.Errorf("P10.3: Normalize or Equivalent of large relation %d", i)
		}
	}
	if tuple.Equivalent(nested, staggered) {
		t.Error("P10.3: Equivalent of different large relations")
	}
	if got := tuple.Timeslice(nested, n/2); len(got) != n/2+1 {
		t.Errorf("P10.2: Timeslice has %d rows", len(got))
	}
}

// The chapter's example.
func TestExamples(t *testing.T) {
	checkNormalize(t, tuples(fact(1, p(0, 5), 2), fact(1, p(3, 9), 2)), tuples(fact(1, p(0, 9), 2), fact(1, p(3, 5), 2)))
}
