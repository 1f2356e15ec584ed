package coalesce_test

import (
	"slices"
	"testing"

	"annalist/api"
	"annalist/coalesce"
)

// checkCoalesce checks the coalesced form of the tuples, and that this form is
// recognized.
func checkCoalesce(t *testing.T, in, want []api.Tuple) {
	t.Helper()
	if got := coalesce.Coalesce(in); !same(got, want) {
		t.Fatalf("P11.1: Coalesce(%v) = %v, want %v", in, got, want)
	}
	if got := coalesce.IsCoalesced(in); got != same(in, want) {
		t.Fatalf("P11.1: IsCoalesced(%v) = %v, want %v", in, got, same(in, want))
	}
	if !coalesce.IsCoalesced(want) {
		t.Fatalf("P11.1: IsCoalesced(%v) = false, want true", want)
	}
}

func TestCoalesce(t *testing.T) {
	tests := []struct{ tuples, want []api.Tuple }{
		{nil, nil}, {tuples(), nil},
		{tuples(fact(1, p(2, 5), 3)), tuples(fact(1, p(2, 5)))},
		{tuples(fact(1, p(2, 5))), tuples(fact(1, p(2, 5)))},
		// Different lineages: tuples that meet, overlap, contain one another, hold at
		// the same time, or leave a gap.
		{tuples(fact(1, p(5, 9), 2), fact(1, p(0, 5), 1)), tuples(fact(1, p(0, 9)))},
		{tuples(fact(1, p(3, 9), 2), fact(1, p(0, 5), 1)), tuples(fact(1, p(0, 9)), fact(1, p(3, 5)))},
		{tuples(fact(1, p(2, 3), 1), fact(1, p(0, 5))), tuples(fact(1, p(0, 5)), fact(1, p(2, 3)))},
		{tuples(fact(1, p(0, 5), 1), fact(1, p(0, 5), 2), fact(1, p(0, 5), 1, 2)), tuples(fact(1, p(0, 5)), fact(1, p(0, 5)), fact(1, p(0, 5)))},
		{tuples(fact(1, p(6, 9), 1), fact(1, p(0, 5), 2)), tuples(fact(1, p(0, 5)), fact(1, p(6, 9)))},
		// With equal starts, the shorter period comes first.
		{tuples(fact(1, p(0, 9), 1), fact(1, p(0, 5), 2)), tuples(fact(1, p(0, 5)), fact(1, p(0, 9)))},
		// A level goes on where one tuple takes the place of another.
		{tuples(fact(1, p(0, 4), 1), fact(1, p(2, 6), 2), fact(1, p(4, 8), 3), fact(1, p(6, 9), 4)), tuples(fact(1, p(0, 9)), fact(1, p(2, 8)))},
		{tuples(fact(1, p(0, 5), 1), fact(1, p(0, 5), 1), fact(1, p(5, 9), 2), fact(1, p(5, 7), 3)), tuples(fact(1, p(0, 7)), fact(1, p(0, 9)))},
		// A value that changed and later changed back is not merged over the gap.
		{tuples(fact(1, p(0, 3), 1), fact(2, p(3, 5), 2), fact(1, p(5, 8), 3)), tuples(fact(1, p(0, 3)), fact(1, p(5, 8)), fact(2, p(3, 5)))},
		// The values decide about the order before the periods do, and the lineages
		// do not decide at all.
		{tuples(fact(2, p(0, 3), 1), fact(1, p(4, 6), 2), fact(1, p(8, 9), 1)), tuples(fact(1, p(4, 6)), fact(1, p(8, 9)), fact(2, p(0, 3)))},
		{tuples(fact(10, p(1, 2), 1), fact(2, p(0, 1), 2), with(vals(null), p(2, 3), 3), with(nil, p(5, 6), 9)),
			tuples(with(nil, p(5, 6)), with(vals(null), p(2, 3)), fact(2, p(0, 1)), fact(10, p(1, 2)))},
		// Different values are never merged.
		{tuples(with(vals(num(1), null), p(5, 9), 1), fact(1, p(0, 5), 1)), tuples(fact(1, p(0, 5)), with(vals(num(1), null), p(5, 9)))},
		{tuples(with(vals(text("1")), p(5, 9), 1), fact(1, p(0, 5), 1), with(vals(yes), p(9, 12), 1)), tuples(fact(1, p(0, 5)), with(vals(text("1")), p(5, 9)), with(vals(yes), p(9, 12)))},
		// Periods of instants.
		{tuples(fact(1, p(api.Forever, api.UntilChanged), 2), fact(1, p(0, api.Forever), 1), fact(1, p(api.Forever-1, api.Forever+1), 3)),
			tuples(fact(1, p(0, api.UntilChanged)), fact(1, p(api.Forever-1, api.Forever+1)))},
		{tuples(fact(1, p(0, api.UntilChanged), 1), fact(1, p(api.UntilChanged-1, api.UntilChanged), 2)),
			tuples(fact(1, p(0, api.UntilChanged)), fact(1, p(api.UntilChanged-1, api.UntilChanged)))},
	}
	for _, x := range tests {
		checkCoalesce(t, x.tuples, x.want)
	}
}

// Tuples with an invalid period do not add to the coalesced form, also not where
// they overlap or join valid ones, and a relation that has one is not coalesced.
func TestCoalesceOfInvalidPeriods(t *testing.T) {
	for _, valid := range invalidPeriods() {
		checkCoalesce(t, tuples(fact(1, valid)), nil)
		checkCoalesce(t, tuples(fact(1, p(0, 3)), fact(1, valid), fact(1, p(4, 6))), tuples(fact(1, p(0, 3)), fact(1, p(4, 6))))
		checkCoalesce(t, tuples(fact(1, p(4, 6), 1), fact(1, valid, 1), fact(2, valid, 2), fact(1, p(0, 3), 2), fact(1, valid, 1)), tuples(fact(1, p(0, 3)), fact(1, p(4, 6))))
	}
}

// Tuples with invalid values are compared and kept as they are, and those with
// invalid lineages lose these as well.
func TestCoalesceOfInvalidTuples(t *testing.T) {
	var in, want []api.Tuple
	for _, v := range slices.Backward(strangeValues()) {
		for i, lineage := range strangeLineages() {
			in = append(in, with(v, p(i, i+1), lineage...))
		}
	}
	for _, v := range strangeValues() {
		want = append(want, with(v, p(0, len(strangeLineages()))))
	}
	checkCoalesce(t, in, want)
}

func TestCoalesceAgreesWithTheDefinition(t *testing.T) {
	for _, some := range smallRelations() {
		checkCoalesce(t, some, wantCoalesced(some, 3))
	}
	random := pseudoRandom()
	for range 1000 {
		few := shuffled(strangeValues(), random)[:1+random(6)]
		some := someTuples(few, 25, 10, random)
		checkCoalesce(t, some, wantCoalesced(some, 10))
	}
}

// Only the order of the ends matters, so the coalesced form at the limits is that
// of small points.
func TestCoalesceAtTheLimits(t *testing.T) {
	points := ids(0, 1, api.Forever-1, api.Forever, api.Forever+1, 1<<32, api.UntilChanged-1, api.UntilChanged)
	moved := func(some []api.Tuple) []api.Tuple {
		var all []api.Tuple
		for _, u := range some {
			all = append(all, with(u.Vals, p(points[u.Valid.From], points[u.Valid.To]), u.Lineage...))
		}
		return all
	}
	random := pseudoRandom()
	for range 1000 {
		some := someTuples([][]api.Value{vals(num(1)), vals(num(2))}, 12, len(points)-1, random)
		checkCoalesce(t, moved(some), moved(wantCoalesced(some, len(points)-1)))
	}
}

func TestIsCoalesced(t *testing.T) {
	coalesced := [][]api.Tuple{
		nil, tuples(), tuples(fact(1, p(0, 5))), tuples(fact(1, p(0, 5)), fact(1, p(6, 9))), tuples(fact(1, p(0, 9)), fact(1, p(3, 5))),
		tuples(fact(1, p(0, 5)), fact(1, p(0, 9))), tuples(fact(1, p(0, 5)), fact(1, p(0, 5))), tuples(fact(1, p(5, 9)), fact(2, p(0, 5))),
		tuples(fact(1, p(0, api.UntilChanged))), tuples(with(vals(api.Value{Kind: 9, N: 1, S: "a"}), p(0, 5))), tuples(with(nil, p(0, 5)), fact(1, p(0, 5))),
	}
	for _, some := range coalesced {
		if !coalesce.IsCoalesced(some) {
			t.Errorf("P11.1: IsCoalesced(%v) = false, want true", some)
		}
	}
	notCoalesced := [][]api.Tuple{
		// Lineages, also of one tuple among several.
		tuples(fact(1, p(0, 5), 1)), tuples(fact(1, p(0, 5), 1), fact(2, p(0, 5))), tuples(fact(1, p(0, 5)), fact(2, p(0, 5), 1)), tuples(fact(1, p(0, 5), 0)),
		// Tuples that meet or overlap in another way than levels do.
		tuples(fact(1, p(0, 5)), fact(1, p(5, 9))), tuples(fact(1, p(0, 5)), fact(1, p(3, 9))), tuples(fact(1, p(0, 5)), fact(1, p(0, 9)), fact(1, p(5, 9))),
		// Another order of values or periods.
		tuples(fact(2, p(0, 5)), fact(1, p(0, 5))), tuples(fact(1, p(6, 9)), fact(1, p(0, 5))), tuples(fact(1, p(0, 9)), fact(1, p(0, 5))), tuples(fact(1, p(0, 5)), with(nil, p(0, 5))),
		// Tuples that hold at no time.
		tuples(fact(1, p(5, 5))), tuples(api.Tuple{}), tuples(fact(1, p(0, 5)), fact(2, p(-1, 5))), tuples(fact(1, p(0, 5)), fact(1, p(9, 6))), tuples(fact(1, p(0, api.UntilChanged+1))),
	}
	for _, some := range notCoalesced {
		if coalesce.IsCoalesced(some) {
			t.Errorf("P11.1: IsCoalesced(%v) = true, want false", some)
		}
	}
}

// A coalesced relation is no longer coalesced after any change that leaves its
// timeslices as they are, or that adds a lineage.
func TestIsCoalescedOfChangedRelations(t *testing.T) {
	check := func(some []api.Tuple) {
		t.Helper()
		if coalesce.IsCoalesced(some) {
			t.Fatalf("P11.1: IsCoalesced(%v) = true, want false", some)
		}
	}
	random := pseudoRandom()
	for range 500 {
		some := coalesce.Coalesce(append(someTuples(strangeValues(), 12, 9, random), fact(1, p(2, 5), 1)))
		i := random(len(some))
		derived := copied(some)
		derived[i].Lineage = ids(random(9))
		check(derived)
		check(slices.Insert(copied(some), i, with(some[i].Vals, p(4, 4))))
		check(append(copied(some), with(some[i].Vals, p(-1, 4))))
		if k := random(len(some)); !sameTuple(some[i], some[k]) {
			swapped := copied(some)
			swapped[i], swapped[k] = swapped[k], swapped[i]
			check(swapped)
		}
		if valid := some[i].Valid; valid.To-valid.From > 1 {
			split := slices.Insert(copied(some), i, with(some[i].Vals, p(valid.From, valid.From+1)))
			split[i+1].Valid.From++
			check(split)
		}
	}
}

// checkProperties checks the coalesced form of tuples that hold at the first n
// points only.
func checkProperties(t *testing.T, some []api.Tuple, n int) {
	t.Helper()
	coalesced := coalesce.Coalesce(some)
	for _, v := range distinctValues(slices.Concat(some, coalesced)) {
		for at := -1; at <= n; at++ {
			if got, want := multiplicity(coalesced, v, at), multiplicity(some, v, at); got != want {
				t.Fatalf("P11.2: %v has the multiplicity %d at %d in Coalesce(%v) = %v, want %d", v, got, at, some, coalesced, want)
			}
		}
	}
	for _, a := range coalesced {
		for _, b := range coalesced {
			if slices.Equal(a.Vals, b.Vals) && a.Valid.To == b.Valid.From {
				t.Fatalf("P11.2: %v and %v meet in Coalesce(%v)", a, b, some)
			}
		}
	}
	if got := coalesce.Coalesce(coalesced); !same(got, coalesced) {
		t.Fatalf("P11.1: the coalesced form of the coalesced form %v is %v", coalesced, got)
	}
}

func TestCoalescingPreservesMultiplicities(t *testing.T) {
	for _, some := range smallRelations() {
		checkProperties(t, some, 3)
	}
	random := pseudoRandom()
	for range 1000 {
		few := shuffled(strangeValues(), random)[:1+random(4)]
		checkProperties(t, someTuples(few, 30, 9, random), 9)
	}
	for _, valid := range invalidPeriods() {
		checkProperties(t, tuples(fact(1, valid, 1), fact(1, p(0, 5), 2), fact(1, valid), fact(1, p(5, 8), 3)), 9)
	}
}

// The order of the tuples and their lineages make no difference.
func TestCoalesceOfEqualRelations(t *testing.T) {
	random := pseudoRandom()
	for range 500 {
		a := someTuples(strangeValues(), 20, 9, random)
		b := shuffled(copied(a), random)
		for i := range b {
			b[i].Lineage = strangeLineages()[random(len(strangeLineages()))]
		}
		if got, want := coalesce.Coalesce(b), coalesce.Coalesce(a); !same(got, want) {
			t.Fatalf("P11.1: Coalesce(%v) = %v, want that of %v, %v", b, got, a, want)
		}
	}
}

// A nil slice and an empty slice are the same, as an argument and within a tuple.
func TestNilAndEmptySlices(t *testing.T) {
	bare, empty := api.Tuple{Valid: p(0, 5)}, api.Tuple{Vals: vals(), Valid: p(3, 9), Lineage: ids()}
	want := tuples(with(nil, p(0, 9)), with(nil, p(3, 5)))
	checkCoalesce(t, tuples(bare, empty), want)
	checkCoalesce(t, tuples(empty, bare), want)
	for _, some := range [][]api.Tuple{
		tuples(bare), tuples(empty), tuples(api.Tuple{Vals: vals(num(1)), Valid: p(3, 9), Lineage: ids()}), tuples(api.Tuple{Vals: vals(), Valid: p(3, 9)}),
	} {
		if !coalesce.IsCoalesced(some) {
			t.Errorf("P11.1: IsCoalesced(%v) = false, want true", some)
		}
	}
}

// The arguments are left as they are, also what lies behind them in memory.
func TestArgumentsAreNotChanged(t *testing.T) {
	a := tuples(fact(3, p(5, 9), 9, 4), fact(1, p(2, 4), 5), fact(1, p(0, 2), 6), fact(1, p(4, 4), 1), fact(1, p(1, 3), 5), fact(0, p(0, 1), 1), fact(-1, p(0, 1)))
	kept := copied(a)
	coalesce.Coalesce(a[:5])
	if !same(a, kept) {
		t.Fatalf("P11.1: Coalesce changed its argument to %v", a)
	}
	coalesce.IsCoalesced(a[:5])
	if !same(a, kept) {
		t.Fatalf("P11.1: IsCoalesced changed its argument to %v", a)
	}
}

// The tuples of a result share no memory, neither with the argument nor with one
// another, even where the tuples of the argument share theirs.
func TestResultsAreNewMemory(t *testing.T) {
	values, lineage := vals(num(1), text("a"), null), ids(1, 2, 3)
	some := tuples(
		with(values[:2], p(7, 9), lineage[:2]...), with(values[:2], p(0, 5), lineage[:1]...), with(values[:2], p(3, 6), lineage...), with(values[:1], p(0, 5), lineage...),
	)
	for _, in := range [][]api.Tuple{some, coalesce.Coalesce(some)} {
		keptValues, keptIn := slices.Clone(values), copied(in)
		result := coalesce.Coalesce(in)
		kept := copied(result)
		for i := range result {
			all := result[i].Vals
			for k := range all[:cap(all)] {
				all[:cap(all)][k] = text("changed")
			}
			if !slices.Equal(values, keptValues) || !slices.Equal(lineage, ids(1, 2, 3)) || !same(in, keptIn) {
				t.Fatalf("P11.1: a change of tuple %d of the result changed the argument to %v", i, in)
			}
			if !same(result[i+1:], kept[i+1:]) {
				t.Fatalf("P11.1: a change of tuple %d of the result changed another one: %v", i, result)
			}
		}
	}
}

// Many tuples of equal values, which contain one another, follow each other, or
// leave gaps.
func TestLargeRelations(t *testing.T) {
	const n = 50_000
	var nested, meeting, apart, wantNested, wantApart []api.Tuple
	for i := range n {
		k := (i * 7_777) % n
		nested = append(nested, fact(1, p(k, 2*n-k), i))
		wantNested = append(wantNested, fact(1, p(i, 2*n-i)))
		meeting = append(meeting, fact(1, p(k, k+1), i))
		apart = append(apart, fact(1, p(2*k, 2*k+1), i))
		wantApart = append(wantApart, fact(1, p(2*i, 2*i+1)))
	}
	tests := []struct{ tuples, want []api.Tuple }{{nested, wantNested}, {meeting, tuples(fact(1, p(0, n)))}, {apart, wantApart}}
	for i, x := range tests {
		if !same(coalesce.Coalesce(x.tuples), x.want) || coalesce.IsCoalesced(x.tuples) || !coalesce.IsCoalesced(x.want) {
			t.Errorf("P11.1: Coalesce or IsCoalesced of large relation %d", i)
		}
	}
}

// The chapter's example.
func TestExamples(t *testing.T) {
	checkCoalesce(t, tuples(fact(1, p(0, 5), 1), fact(1, p(5, 9), 2)), tuples(fact(1, p(0, 9))))
}
