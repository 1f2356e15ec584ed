package splitter_test

import (
	"slices"
	"testing"

	"annalist/api"
	"annalist/granule"
	"annalist/period"
	"annalist/splitter"
	"annalist/tuple"
)

func checkSplitAt(t *testing.T, in []api.Tuple, points []int, want []api.Tuple) {
	t.Helper()
	if got := splitter.SplitAt(in, points); !same(got, want) {
		t.Fatalf("P12.1: SplitAt(%v, %v) = %v, want %v", in, points, got, want)
	}
}

func checkAlign(t *testing.T, a, b, want []api.Tuple) {
	t.Helper()
	if got := splitter.Align(a, b); !same(got, want) {
		t.Fatalf("P12.2: Align(%v, %v) = %v, want %v", a, b, got, want)
	}
}

func checkByGranule(t *testing.T, in []api.Tuple, g api.Granularity, want []api.Tuple) {
	t.Helper()
	if got := splitter.SplitByGranule(in, g); !same(got, want) {
		t.Fatalf("P12.3: SplitByGranule(%v, %v) = %v, want %v", in, g, got, want)
	}
}

func TestSplitAt(t *testing.T) {
	tests := []struct {
		tuples []api.Tuple
		points []int
		want   []api.Tuple
	}{
		{nil, nil, nil}, {tuples(), ids(), nil}, {nil, ids(3), nil},
		{facts(p(2, 6)), nil, facts(p(2, 6))}, {facts(p(2, 6)), ids(), facts(p(2, 6))},
		// Points strictly inside, at the ends, and outside.
		{facts(p(2, 6)), ids(3), facts(p(2, 3), p(3, 6))}, {facts(p(2, 6)), ids(5), facts(p(2, 5), p(5, 6))},
		{facts(p(2, 6)), ids(2), facts(p(2, 6))}, {facts(p(2, 6)), ids(6), facts(p(2, 6))}, {facts(p(2, 6)), ids(2, 6), facts(p(2, 6))},
		{facts(p(2, 6)), ids(1, 7, 0, -1, -5, 100), facts(p(2, 6))}, {facts(p(0, 2)), ids(-1, 0, 1), facts(p(0, 1), p(1, 2))},
		{facts(p(2, 6)), ids(2, 3, 4, 5, 6), facts(p(2, 3), p(3, 4), p(4, 5), p(5, 6))},
		// A period of one point has no point strictly inside.
		{facts(p(2, 3)), ids(1, 2, 3, 4), facts(p(2, 3))},
		// Points in any order, and repeated ones.
		{facts(p(0, 9)), ids(7, 3, 5), facts(p(0, 3), p(3, 5), p(5, 7), p(7, 9))}, {facts(p(0, 9)), ids(5, 5, 3, 5, 3), facts(p(0, 3), p(3, 5), p(5, 9))},
		// The tuples keep their order, also equal ones, and the pieces of one tuple
		// come before those of the next.
		{facts(p(4, 8), p(0, 6), p(4, 8)), ids(5), facts(p(4, 5), p(5, 8), p(0, 5), p(5, 6), p(4, 5), p(5, 8))},
		{tuples(fact(2, p(4, 6), 7), fact(1, p(4, 6), 3, 5), with(nil, p(0, 9))), ids(5),
			tuples(fact(2, p(4, 5), 7), fact(2, p(5, 6), 7), fact(1, p(4, 5), 3, 5), fact(1, p(5, 6), 3, 5), with(nil, p(0, 5)), with(nil, p(5, 9)))},
		// Pieces that meet are not joined.
		{facts(p(0, 3), p(3, 6)), ids(3), facts(p(0, 3), p(3, 6))},
	}
	for _, x := range tests {
		checkSplitAt(t, x.tuples, x.points, x.want)
	}
}

// Tuples with an invalid period are dropped, with or without points.
func TestSplitAtOfInvalidPeriods(t *testing.T) {
	for _, valid := range invalidPeriods() {
		for _, points := range [][]int{nil, ids(3), ids(-5, 0, 1, 2, 3, 4, 5), ids(valid.From, valid.To), ids(most, least, api.UntilChanged-1, api.UntilChanged, api.UntilChanged+1)} {
			checkSplitAt(t, facts(valid), points, nil)
		}
		checkSplitAt(t, facts(valid, p(0, 5), valid, p(2, 4), valid), ids(3), facts(p(0, 3), p(3, 5), p(2, 3), p(3, 4)))
	}
}

// Tuples with invalid values and lineages are split as well, and their pieces
// keep these as they are.
func TestPiecesOfInvalidTuples(t *testing.T) {
	for _, v := range strangeValues() {
		for _, lineage := range strangeLineages() {
			whole, want := tuples(with(v, p(0, 40), lineage...)), tuples(with(v, p(0, 31), lineage...), with(v, p(31, 40), lineage...))
			checkSplitAt(t, whole, ids(31), want)
			checkAlign(t, whole, facts(p(31, 50)), want)
			checkAlign(t, facts(p(0, 40)), tuples(with(v, p(31, 40), lineage...)), facts(p(0, 31), p(31, 40)))
			checkByGranule(t, whole, api.Granularity{Kind: api.Months, Start: 1}, want)
		}
	}
}

func TestSplitAtAgreesWithTheDefinition(t *testing.T) {
	for _, some := range smallRelations() {
		for _, points := range slicesOf(ids(-1, 0, 1, 2, 3, 4, 5), 3) {
			checkSplitAt(t, some, points, wantSplitAt(some, points, 4))
		}
	}
	random := pseudoRandom()
	for range 2000 {
		some, points := someTuples(12, 15, random), somePoints(10, 15, random)
		checkSplitAt(t, some, points, wantSplitAt(some, points, 15))
	}
}

// limits returns points up to the limits of periods, in ascending order.
func limits() []int {
	return ids(0, 1, api.Forever-1, api.Forever, api.Forever+1, 1<<32, api.UntilChanged-1, api.UntilChanged)
}

// moved returns the tuples with other points in place of the first ones.
func moved(some []api.Tuple, points []int) []api.Tuple {
	var all []api.Tuple
	for _, u := range some {
		all = append(all, with(u.Vals, p(points[u.Valid.From], points[u.Valid.To]), u.Lineage...))
	}
	return all
}

// Only the order of the points matters, so the pieces at the limits are those of
// small points. Points beyond the limits split nothing.
func TestSplittingAtTheLimits(t *testing.T) {
	last := len(limits()) - 1
	random := pseudoRandom()
	for range 1000 {
		some, others := someTuples(6, last, random), someTuples(4, last, random)
		points, far := ids(), ids(least, -1, most, api.UntilChanged+1)
		for range random(5) {
			at := random(last + 1)
			points, far = append(points, at), append(far, limits()[at])
		}
		checkSplitAt(t, moved(some, limits()), far, moved(wantSplitAt(some, points, last), limits()))
		checkAlign(t, moved(some, limits()), moved(others, limits()), moved(wantSplitAt(some, wantBoundaries(others), last), limits()))
	}
}

func TestAlign(t *testing.T) {
	tests := []struct{ a, b, want []api.Tuple }{
		{nil, nil, nil}, {tuples(), tuples(), nil}, {nil, facts(p(0, 5)), nil},
		{facts(p(0, 5)), nil, facts(p(0, 5))}, {facts(p(0, 5)), tuples(), facts(p(0, 5))},
		// Tuples of b that begin or end inside, overlap in another way, or do not
		// overlap at all.
		{facts(p(2, 8)), facts(p(4, 9)), facts(p(2, 4), p(4, 8))}, {facts(p(2, 8)), facts(p(0, 4)), facts(p(2, 4), p(4, 8))},
		{facts(p(2, 8)), facts(p(4, 6)), facts(p(2, 4), p(4, 6), p(6, 8))}, {facts(p(2, 8)), facts(p(0, 9)), facts(p(2, 8))},
		{facts(p(2, 8)), facts(p(2, 8)), facts(p(2, 8))}, {facts(p(2, 8)), facts(p(8, 9), p(0, 2)), facts(p(2, 8))}, {facts(p(2, 8)), facts(p(0, 1), p(10, 12)), facts(p(2, 8))},
		{facts(p(2, 8)), facts(p(6, 9), p(2, 3), p(4, 6)), facts(p(2, 3), p(3, 4), p(4, 6), p(6, 8))},
		// The contents of b do not matter, and those of a are kept.
		{tuples(fact(3, p(2, 8), 1, 4), fact(1, p(0, 5))), tuples(with(nil, p(3, 4), 9)),
			tuples(fact(3, p(2, 3), 1, 4), fact(3, p(3, 4), 1, 4), fact(3, p(4, 8), 1, 4), fact(1, p(0, 3)), fact(1, p(3, 4)), fact(1, p(4, 5)))},
		// a is not split at its own boundaries.
		{facts(p(0, 9), p(3, 5)), facts(p(0, 9)), facts(p(0, 9), p(3, 5))}, {facts(p(0, 9), p(3, 5)), facts(p(0, 4)), facts(p(0, 4), p(4, 9), p(3, 4), p(4, 5))},
	}
	for _, x := range tests {
		checkAlign(t, x.a, x.b, x.want)
	}
}

// Tuples of a with an invalid period are dropped, and those of b have no
// boundaries.
func TestAlignOfInvalidPeriods(t *testing.T) {
	for _, valid := range invalidPeriods() {
		checkAlign(t, facts(valid), facts(p(0, 5), p(2, 4)), nil)
		checkAlign(t, facts(p(0, 12), p(2, 4)), facts(valid), facts(p(0, 12), p(2, 4)))
		checkAlign(t, facts(valid, p(0, 12), valid), facts(valid, p(6, 8), valid), facts(p(0, 6), p(6, 8), p(8, 12)))
		checkAlign(t, facts(p(0, api.UntilChanged)), facts(valid), facts(p(0, api.UntilChanged)))
	}
}

func TestAlignAgreesWithTheDefinition(t *testing.T) {
	check := func(a, b []api.Tuple, n int) {
		t.Helper()
		checkAlign(t, a, b, wantSplitAt(a, wantBoundaries(b), n))
		checkAlign(t, a, b, splitter.SplitAt(a, tuple.Boundaries(b)))
	}
	for _, a := range smallRelations() {
		for _, b := range smallRelations() {
			check(a, b, 4)
		}
	}
	random := pseudoRandom()
	for range 2000 {
		check(someTuples(10, 15, random), someTuples(5, 15, random), 15)
	}
}

func TestSplitByGranule(t *testing.T) {
	days, weeks, years := api.Granularity{Kind: api.Days}, api.Granularity{Kind: api.Weeks}, api.Granularity{Kind: api.Years, Start: 1}
	months, fiscal := api.Granularity{Kind: api.Months, Start: 1}, api.Granularity{Kind: api.Months, Start: 15}
	tests := []struct {
		tuples []api.Tuple
		g      api.Granularity
		want   []api.Tuple
	}{
		{nil, days, nil}, {tuples(), years, nil},
		{facts(p(5, 8)), days, facts(p(5, 6), p(6, 7), p(7, 8))}, {facts(p(5, 6)), days, facts(p(5, 6))},
		// Day 0 is a Saturday.
		{facts(p(0, 17)), weeks, facts(p(0, 2), p(2, 9), p(9, 16), p(16, 17))}, {facts(p(2, 9)), weeks, facts(p(2, 9))},
		{facts(p(10, 40)), months, facts(p(10, 31), p(31, 40))}, {facts(p(10, 40)), fiscal, facts(p(10, 14), p(14, 40))},
		{facts(p(0, 31)), months, facts(p(0, 31))}, {facts(p(31, 60)), months, facts(p(31, 60))}, {facts(p(30, 61)), months, facts(p(30, 31), p(31, 60), p(60, 61))},
		// 1600 is a leap year, and 1602 begins on a Tuesday.
		{facts(p(360, 370)), years, facts(p(360, 366), p(366, 370))}, {facts(p(728, 740)), weeks, facts(p(728, 730), p(730, 731), p(731, 737), p(737, 740))},
		// Tuples keep their order, their contents, and what is equal.
		{tuples(fact(3, p(30, 32), 2, 5), fact(1, p(0, 9), 7), with(nil, p(59, 61)), fact(3, p(30, 32), 2, 5)), months,
			tuples(fact(3, p(30, 31), 2, 5), fact(3, p(31, 32), 2, 5), fact(1, p(0, 9), 7), with(nil, p(59, 60)), with(nil, p(60, 61)), fact(3, p(30, 31), 2, 5), fact(3, p(31, 32), 2, 5))},
		// Pieces that meet within a granule are not joined.
		{facts(p(0, 9), p(9, 31)), months, facts(p(0, 9), p(9, 31))},
		// The last days.
		{facts(p(api.Forever-2, api.Forever)), days, facts(p(api.Forever-2, api.Forever-1), p(api.Forever-1, api.Forever))},
		{facts(p(api.Forever-1, api.Forever)), years, facts(p(api.Forever-1, api.Forever))},
	}
	for _, x := range tests {
		checkByGranule(t, x.tuples, x.g, x.want)
	}
}

// Tuples whose period is not one of days are dropped, also those that layer 4
// calls valid.
func TestSplitByGranuleOfInvalidPeriods(t *testing.T) {
	instants := []api.Period{
		p(0, api.Forever+1), p(5, api.UntilChanged), p(api.Forever-1, api.Forever+1), p(api.Forever, api.Forever+1), p(api.Forever+5, api.Forever+7), p(api.UntilChanged-1, api.UntilChanged),
	}
	for _, valid := range slices.Concat(invalidPeriods(), instants) {
		for _, g := range granularities() {
			checkByGranule(t, facts(valid), g, nil)
			checkByGranule(t, facts(valid, p(1, 2), valid, p(0, 1), valid), g, facts(p(1, 2), p(0, 1)))
		}
	}
}

func TestSplitByInvalidGranularities(t *testing.T) {
	for _, g := range invalidGranularities() {
		checkByGranule(t, nil, g, nil)
		checkByGranule(t, facts(p(0, 5), p(3, 4), p(0, api.Forever), p(-1, 3)), g, nil)
	}
}

func TestSplitByGranuleAgreesWithTheDefinition(t *testing.T) {
	random := pseudoRandom()
	for _, g := range granularities() {
		for range 20 {
			some := someTuples(8, 800, random)
			checkByGranule(t, some, g, wantByGranule(some, g, 800))
		}
		// Long periods, far from day 0.
		var some, want []api.Tuple
		for i := range 4 {
			from := 900_000 + random(90_000)
			u := fact(int64(i), p(from, from+1+random(api.Forever-from)), i)
			some = append(some, u)
			for _, part := range granule.Split(g, u.Valid) {
				want = append(want, with(u.Vals, part, u.Lineage...))
			}
		}
		checkByGranule(t, some, g, want)
	}
}

// checkSlices checks that the pieces of tuples that hold at the first n points
// only hold when the tuples do.
func checkSlices(t *testing.T, some, pieces []api.Tuple, n int) {
	t.Helper()
	if !tuple.Equivalent(some, pieces) {
		t.Fatalf("P12.4: the pieces %v are not snapshot equivalent to %v", pieces, some)
	}
	sameRow := func(a, b api.Row) bool { return slices.Equal(a.Vals, b.Vals) && slices.Equal(a.Lineage, b.Lineage) }
	for at := -1; at <= n; at++ {
		if got, want := timeslice(pieces, at), timeslice(some, at); !slices.EqualFunc(got, want, sameRow) {
			t.Fatalf("P12.4: the pieces %v have the timeslice %v at %d, want %v", pieces, got, at, want)
		}
	}
}

// checkAligned checks that tuples that are aligned with the concatenation have
// equal periods where they overlap.
func checkAligned(t *testing.T, a, b []api.Tuple) {
	t.Helper()
	both := slices.Concat(a, b)
	all := slices.Concat(splitter.Align(a, both), splitter.Align(b, both))
	for _, first := range all {
		for _, second := range all {
			if _, overlap := period.Intersect(first.Valid, second.Valid); overlap && first.Valid != second.Valid {
				t.Fatalf("P12.4: %v and %v overlap in the aligned relations of %v and %v", first, second, a, b)
			}
		}
	}
}

func TestSplittingPreservesSnapshotEquivalence(t *testing.T) {
	for _, some := range smallRelations() {
		for _, points := range slicesOf(ids(0, 1, 2, 3, 4), 2) {
			checkSlices(t, some, splitter.SplitAt(some, points), 4)
		}
		for _, other := range smallRelations() {
			checkSlices(t, some, splitter.Align(some, other), 4)
		}
	}
	random := pseudoRandom()
	for range 500 {
		some := someTuples(12, 15, random)
		some = append(some, fact(1, invalidPeriods()[random(len(invalidPeriods()))]))
		checkSlices(t, some, splitter.SplitAt(some, somePoints(10, 15, random)), 15)
		checkSlices(t, some, splitter.Align(some, someTuples(5, 15, random)), 15)
	}
	for _, g := range granularities() {
		some := someTuples(12, 400, random)
		checkSlices(t, some, splitter.SplitByGranule(some, g), 400)
	}
}

func TestAlignedPiecesThatOverlapAreEqual(t *testing.T) {
	for _, a := range smallRelations() {
		for _, b := range smallRelations() {
			checkAligned(t, a, b)
		}
	}
	random := pseudoRandom()
	for range 500 {
		a, b := someTuples(8, 20, random), someTuples(8, 20, random)
		checkAligned(t, a, append(b, fact(1, invalidPeriods()[random(len(invalidPeriods()))])))
		checkAligned(t, moved(someTuples(5, len(limits())-1, random), limits()), moved(someTuples(5, len(limits())-1, random), limits()))
	}
}

// A nil slice and an empty slice are the same, also within a tuple.
func TestNilAndEmptySlices(t *testing.T) {
	whole := tuples(api.Tuple{Valid: p(30, 32)}, api.Tuple{Vals: vals(), Valid: p(30, 32), Lineage: ids()})
	want := tuples(with(nil, p(30, 31)), with(nil, p(31, 32)), with(nil, p(30, 31)), with(nil, p(31, 32)))
	checkSplitAt(t, whole, ids(31), want)
	checkAlign(t, whole, tuples(api.Tuple{Vals: vals(), Valid: p(31, 40)}), want)
	checkByGranule(t, whole, api.Granularity{Kind: api.Months, Start: 1}, want)
}

// The arguments are left as they are, also what lies behind them in memory.
func TestArgumentsAreNotChanged(t *testing.T) {
	a := tuples(fact(3, p(5, 90), 9, 4), fact(1, p(2, 40), 5), fact(1, p(4, 4), 1), fact(1, p(0, 20), 6), fact(0, p(0, 1), 1), fact(-1, p(0, 1)))
	b := tuples(fact(3, p(8, 60), 9, 4), fact(1, p(2, 7), 5), fact(1, p(3, 3), 1), fact(0, p(0, 1), 1), fact(-1, p(0, 1)))
	points := ids(50, 7, 7, 3, 20, -1, 9, 9, 1)
	keptA, keptB, keptPoints := copied(a), copied(b), slices.Clone(points)
	splitter.SplitAt(a[:4], points[:6])
	splitter.SplitAt(a[:4], points[:0])
	splitter.Align(a[:4], b[:3])
	splitter.SplitByGranule(a[:4], api.Granularity{Kind: api.Weeks})
	if !same(a, keptA) || !same(b, keptB) || !slices.Equal(points, keptPoints) {
		t.Fatalf("P12.1: arguments were changed to %v, %v, %v", a, b, points)
	}
}

// overwrite changes the contents of a tuple up to the capacity of its slices.
func overwrite(u api.Tuple) {
	for i := range u.Vals[:cap(u.Vals)] {
		u.Vals[:cap(u.Vals)][i] = text("changed")
	}
	for i := range u.Lineage[:cap(u.Lineage)] {
		u.Lineage[:cap(u.Lineage)][i] = 77
	}
}

// The pieces share no memory, neither with the arguments nor with one another,
// even where the tuples share theirs or have a single piece.
func TestResultsAreNewMemory(t *testing.T) {
	values, lineage := vals(num(1), text("a"), null), ids(1, 2, 3)
	some := tuples(with(values[:2], p(20, 50), lineage[:2]...), with(values[:2], p(0, 70), lineage...), with(values[:1], p(3, 5), lineage[:1]...))
	split := []struct {
		promise string
		pieces  func() []api.Tuple
	}{
		{"P12.1", func() []api.Tuple { return splitter.SplitAt(some, ids(31, 40)) }},
		{"P12.1", func() []api.Tuple { return splitter.SplitAt(some, nil) }},
		{"P12.2", func() []api.Tuple { return splitter.Align(some, some) }},
		{"P12.3", func() []api.Tuple {
			return splitter.SplitByGranule(some, api.Granularity{Kind: api.Months, Start: 1})
		}},
	}
	for _, x := range split {
		keptValues, keptSome := slices.Clone(values), copied(some)
		result := x.pieces()
		kept := copied(result)
		for i := range result {
			overwrite(result[i])
			if !slices.Equal(values, keptValues) || !slices.Equal(lineage, ids(1, 2, 3)) || !same(some, keptSome) {
				t.Fatalf("%s: a change of piece %d of the result changed the argument to %v", x.promise, i, some)
			}
			if !same(result[i+1:], kept[i+1:]) {
				t.Fatalf("%s: a change of piece %d of the result changed another one: %v", x.promise, i, result)
			}
		}
	}
}

// Many points in one tuple, and many tuples with few points each.
func TestLargeRelations(t *testing.T) {
	const n = 50_000
	var points []int
	var short, wantLong, wantShort []api.Tuple
	for i := range n {
		k := (i * 7_777) % n
		points = append(points, 2*k, 2*k)
		short = append(short, fact(int64(k), p(2*k, 2*k+4), i))
		wantShort = append(wantShort, fact(int64(k), p(2*k, 2*k+2), i), fact(int64(k), p(2*k+2, 2*k+4), i))
		wantLong = append(wantLong, fact(1, p(2*i, 2*i+2), 2))
	}
	points = append(points, 2*n)
	if !same(splitter.SplitAt(facts(p(0, 2*n)), points), wantLong) {
		t.Errorf("P12.1: SplitAt of one tuple at %d points", len(points))
	}
	if !same(splitter.SplitAt(short, points), wantShort) {
		t.Errorf("P12.1: SplitAt of %d tuples at %d points", len(short), len(points))
	}
	if !same(splitter.Align(facts(p(0, 2*n)), append(short, fact(1, p(0, n)))), wantLong) {
		t.Errorf("P12.2: Align of one tuple with %d tuples", len(short))
	}
	if got := splitter.SplitByGranule(facts(p(0, api.Forever)), api.Granularity{Kind: api.Days}); len(got) != api.Forever {
		t.Errorf("P12.3: SplitByGranule of all days returns %d pieces", len(got))
	}
}

// The chapter's example.
func TestExamples(t *testing.T) {
	checkSplitAt(t, facts(p(0, 9)), ids(3, 5, 9), facts(p(0, 3), p(3, 5), p(5, 9)))
}
