package splitter_test

import (
	"slices"

	"annalist/api"
	"annalist/bag"
	"annalist/granule"
)

const (
	most  = 1<<63 - 1
	least = -1 << 63
)

var (
	null = api.Value{Kind: api.Null}
	no   = api.Value{Kind: api.Bool, N: 0}
)

func num(n int64) api.Value { return api.Value{Kind: api.Int, N: n} }

func text(s string) api.Value { return api.Value{Kind: api.Text, S: s} }

func vals(all ...api.Value) []api.Value { return all }

func ids(all ...int) []int { return all }

func p(from, to int) api.Period { return api.Period{From: from, To: to} }

// with returns a tuple that shares its contents with the arguments.
func with(v []api.Value, valid api.Period, lineage ...int) api.Tuple {
	return api.Tuple{Vals: v, Valid: valid, Lineage: lineage}
}

// fact returns a tuple with a single Int.
func fact(n int64, valid api.Period, lineage ...int) api.Tuple {
	return with(vals(num(n)), valid, lineage...)
}

// facts returns a tuple with the Int 1 and the lineage 2 for each of the periods.
func facts(periods ...api.Period) []api.Tuple {
	var all []api.Tuple
	for _, valid := range periods {
		all = append(all, fact(1, valid, 2))
	}
	return all
}

func tuples(all ...api.Tuple) []api.Tuple { return all }

func sameTuple(a, b api.Tuple) bool {
	return a.Valid == b.Valid && slices.Equal(a.Vals, b.Vals) && slices.Equal(a.Lineage, b.Lineage)
}

// same reports whether two slices have the same tuples in the same order.
func same(a, b []api.Tuple) bool { return slices.EqualFunc(a, b, sameTuple) }

// copied returns the tuples in memory of their own.
func copied(all []api.Tuple) []api.Tuple {
	var copies []api.Tuple
	for _, t := range all {
		copies = append(copies, with(slices.Clone(t.Vals), t.Valid, slices.Clone(t.Lineage)...))
	}
	return copies
}

// holds is the definition of when a tuple holds.
func holds(t api.Tuple, at int) bool {
	return t.Valid.From >= 0 && t.Valid.To <= api.UntilChanged && t.Valid.From <= at && at < t.Valid.To
}

// timeslice is the definition of the timeslice.
func timeslice(all []api.Tuple, at int) []api.Row {
	var slice []api.Row
	for _, t := range all {
		if holds(t, at) {
			slice = append(slice, api.Row{Vals: t.Vals, Lineage: t.Lineage})
		}
	}
	return bag.Sort(slice)
}

// wantSplit is the definition of the pieces: those of a tuple are the points at
// which it holds, and another one starts where the tuple does and wherever starts
// is true. Only the first n points count.
func wantSplit(all []api.Tuple, starts func(at int) bool, n int) []api.Tuple {
	var pieces []api.Tuple
	for _, t := range all {
		for at := range n {
			switch {
			case !holds(t, at):
			case at == t.Valid.From || starts(at):
				pieces = append(pieces, with(t.Vals, p(at, at+1), t.Lineage...))
			default:
				pieces[len(pieces)-1].Valid.To++
			}
		}
	}
	return pieces
}

// wantSplitAt is the definition of SplitAt, for tuples that hold at the first n
// points only.
func wantSplitAt(all []api.Tuple, points []int, n int) []api.Tuple {
	return wantSplit(all, func(at int) bool { return slices.Contains(points, at) }, n)
}

// wantByGranule is the definition of SplitByGranule, for a valid granularity and
// tuples that hold on the first n days only.
func wantByGranule(all []api.Tuple, g api.Granularity, n int) []api.Tuple {
	return wantSplit(all, func(day int) bool {
		index, _ := granule.IndexOf(g, day)
		before, _ := granule.IndexOf(g, day-1)
		return index != before
	}, n)
}

// wantBoundaries is the definition of the boundaries, in any order and with
// repetitions, which make no difference to the pieces.
func wantBoundaries(all []api.Tuple) []int {
	var points []int
	for _, t := range all {
		if holds(t, t.Valid.From) {
			points = append(points, t.Valid.From, t.Valid.To)
		}
	}
	return points
}

// periodsOf returns all periods of the first n points.
func periodsOf(n int) []api.Period {
	var all []api.Period
	for from := range n {
		for to := from + 1; to <= n; to++ {
			all = append(all, p(from, to))
		}
	}
	return all
}

// slicesOf returns all slices of at most the given length whose elements are
// taken from a vocabulary.
func slicesOf[E any](vocabulary []E, most int) [][]E {
	all := [][]E{nil}
	shorter := all
	for range most {
		var longer [][]E
		for _, s := range shorter {
			for _, e := range vocabulary {
				longer = append(longer, append(slices.Clone(s), e))
			}
		}
		all = append(all, longer...)
		shorter = longer
	}
	return all
}

// smallRelations returns all relations of at most two tuples during four points,
// which differ in their contents.
func smallRelations() [][]api.Tuple {
	relations := [][]api.Tuple{nil}
	for _, first := range periodsOf(4) {
		relations = append(relations, tuples(fact(1, first, 3)))
		for _, second := range periodsOf(4) {
			relations = append(relations, tuples(fact(1, first, 3), fact(0, second)))
		}
	}
	return relations
}

// pseudoRandom returns a function that returns numbers from 0 to n-1 in an order
// that is always the same.
func pseudoRandom() func(n int) int {
	state := uint64(12)
	return func(n int) int {
		state = state*6364136223846793005 + 1442695040888963407
		return int((state >> 33) % uint64(n))
	}
}

// strangeValues returns different lists of values, some of which are invalid.
func strangeValues() [][]api.Value {
	return [][]api.Value{
		vals(num(2)), nil, vals(api.Value{Kind: -1}), vals(null), vals(num(1), null), vals(api.Value{Kind: api.Null, N: 1}), vals(no),
		vals(num(1)), vals(api.Value{Kind: api.Int, N: 1, S: "a"}), vals(text("1")), vals(text("\xff")), vals(api.Value{Kind: 9}),
	}
}

// strangeLineages returns different lineages, some of which are invalid.
func strangeLineages() [][]int {
	return [][]int{nil, ids(1), ids(1, 2), ids(2, 1), ids(1, 1), ids(-3), ids(0)}
}

// someTuples returns up to size tuples, which hold at the first n points only,
// some of them at no time.
func someTuples(size, n int, random func(n int) int) []api.Tuple {
	var some []api.Tuple
	for range random(size + 1) {
		from := random(n)
		to := from + random(n-from+1)
		v, lineage := strangeValues()[random(len(strangeValues()))], strangeLineages()[random(len(strangeLineages()))]
		some = append(some, with(v, p(from, to), lineage...))
	}
	return some
}

// somePoints returns up to size numbers around the first n points, some of them
// repeated.
func somePoints(size, n int, random func(n int) int) []int {
	var points []int
	for range random(size + 1) {
		points = append(points, random(n+4)-2)
	}
	return points
}

// invalidPeriods returns periods that are not valid, some of which would hold at
// small points if their limits were not checked.
func invalidPeriods() []api.Period {
	return []api.Period{
		p(0, 0), p(3, 3), p(4, 3), p(5, 0), p(-1, 0), p(-1, 9), p(-9, -1), p(0, -1), p(0, api.UntilChanged+1), p(3, most),
		p(least, most), p(least, 3), p(most, least), p(most, most), p(api.UntilChanged, api.UntilChanged), p(api.UntilChanged, api.UntilChanged+1),
		p(api.UntilChanged-1, api.UntilChanged+1), p(api.UntilChanged, 0),
	}
}

// granularities returns all valid granularities.
func granularities() []api.Granularity {
	all := []api.Granularity{{Kind: api.Days}, {Kind: api.Weeks}}
	for start := 1; start <= 28; start++ {
		all = append(all, api.Granularity{Kind: api.Months, Start: start})
	}
	for start := 1; start <= 12; start++ {
		all = append(all, api.Granularity{Kind: api.Quarters, Start: start}, api.Granularity{Kind: api.Years, Start: start})
	}
	return all
}

// invalidGranularities returns granularities that are not valid.
func invalidGranularities() []api.Granularity {
	return []api.Granularity{
		{}, {Kind: 0, Start: 1}, {Kind: -1}, {Kind: 6}, {Kind: 6, Start: 1}, {Kind: most}, {Kind: least}, {Kind: api.Days, Start: 1}, {Kind: api.Days, Start: -1},
		{Kind: api.Weeks, Start: 1}, {Kind: api.Months}, {Kind: api.Months, Start: 29}, {Kind: api.Months, Start: -1}, {Kind: api.Quarters},
		{Kind: api.Quarters, Start: 13}, {Kind: api.Years}, {Kind: api.Years, Start: 13}, {Kind: api.Years, Start: most}, {Kind: api.Years, Start: least},
	}
}
