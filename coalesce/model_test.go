package coalesce_test

import (
	"cmp"
	"slices"

	"annalist/api"
	"annalist/periodset"
	"annalist/value"
)

var (
	null = api.Value{Kind: api.Null}
	no   = api.Value{Kind: api.Bool, N: 0}
	yes  = api.Value{Kind: api.Bool, N: 1}
)

func num(n int64) api.Value { return api.Value{Kind: api.Int, N: n} }

func text(s string) api.Value { return api.Value{Kind: api.Text, S: s} }

func vals(all ...api.Value) []api.Value { return all }

func ids(all ...int) []int { return all }

func p(from, to int) api.Period { return api.Period{From: from, To: to} }

// with returns a tuple that shares its contents with the arguments.
func with(v []api.Value, valid api.Period, lineage ...int) api.Tuple {
	return api.Tuple{Vals: v, Valid: valid, Lineage: lineage}
}

// fact returns a tuple with a single Int.
func fact(n int64, valid api.Period, lineage ...int) api.Tuple {
	return with(vals(num(n)), valid, lineage...)
}

func tuples(all ...api.Tuple) []api.Tuple { return all }

func sameTuple(a, b api.Tuple) bool {
	return a.Valid == b.Valid && slices.Equal(a.Vals, b.Vals) && slices.Equal(a.Lineage, b.Lineage)
}

// same reports whether two slices have the same tuples in the same order.
func same(a, b []api.Tuple) bool { return slices.EqualFunc(a, b, sameTuple) }

// copied returns the tuples in memory of their own.
func copied(all []api.Tuple) []api.Tuple {
	var copies []api.Tuple
	for _, t := range all {
		copies = append(copies, with(slices.Clone(t.Vals), t.Valid, slices.Clone(t.Lineage)...))
	}
	return copies
}

// holds is the definition of when a tuple holds.
func holds(t api.Tuple, at int) bool {
	return t.Valid.From >= 0 && t.Valid.To <= api.UntilChanged && t.Valid.From <= at && at < t.Valid.To
}

// multiplicity is the definition of how often a list of values holds at a point.
func multiplicity(all []api.Tuple, v []api.Value, at int) int {
	held := 0
	for _, t := range all {
		if holds(t, at) && slices.Equal(t.Vals, v) {
			held++
		}
	}
	return held
}

// wantCoalesced is the definition of the coalesced form, for tuples that hold at
// the first n points only.
func wantCoalesced(all []api.Tuple, n int) []api.Tuple {
	var coalesced []api.Tuple
	for _, v := range distinctValues(all) {
		var periods []api.Period
		for k := 1; k <= len(all); k++ {
			periods = append(periods, periodset.Normalize(pointsOfLevel(all, v, k, n))...)
		}
		slices.SortFunc(periods, func(a, b api.Period) int {
			return cmp.Or(cmp.Compare(a.From, b.From), cmp.Compare(a.To, b.To))
		})
		for _, valid := range periods {
			coalesced = append(coalesced, with(v, valid))
		}
	}
	return coalesced
}

// distinctValues returns the different lists of values of the tuples in their
// order.
func distinctValues(all []api.Tuple) [][]api.Value {
	var found [][]api.Value
	for _, t := range all {
		found = append(found, t.Vals)
	}
	slices.SortFunc(found, value.CompareRows)
	return slices.CompactFunc(found, slices.Equal)
}

// pointsOfLevel returns those of the first n points at which the values hold at
// least k times.
func pointsOfLevel(all []api.Tuple, v []api.Value, k, n int) []api.Period {
	var points []api.Period
	for at := range n {
		if multiplicity(all, v, at) >= k {
			points = append(points, p(at, at+1))
		}
	}
	return points
}

// periodsOf returns all periods of the first n points.
func periodsOf(n int) []api.Period {
	var all []api.Period
	for from := range n {
		for to := from + 1; to <= n; to++ {
			all = append(all, p(from, to))
		}
	}
	return all
}

// slicesOf returns all slices of at most the given length whose elements are
// taken from a vocabulary.
func slicesOf[E any](vocabulary []E, most int) [][]E {
	all := [][]E{nil}
	shorter := all
	for range most {
		var longer [][]E
		for _, s := range shorter {
			for _, e := range vocabulary {
				longer = append(longer, append(slices.Clone(s), e))
			}
		}
		all = append(all, longer...)
		shorter = longer
	}
	return all
}

// smallRelations returns all relations of at most four tuples of equal values
// during three points, and of at most three tuples of two values, with different
// lineages.
func smallRelations() [][]api.Tuple {
	var single, several []api.Tuple
	for i, valid := range periodsOf(3) {
		single = append(single, fact(1, valid, i%2), fact(1, valid))
		several = append(several, fact(1, valid, 1), fact(1, valid, 2), fact(2, valid, 1), fact(2, valid))
	}
	return slices.Concat(slicesOf(single, 4), slicesOf(several, 3))
}

// pseudoRandom returns a function that returns numbers from 0 to n-1 in an order
// that is always the same.
func pseudoRandom() func(n int) int {
	state := uint64(11)
	return func(n int) int {
		state = state*6364136223846793005 + 1442695040888963407
		return int((state >> 33) % uint64(n))
	}
}

// shuffled returns the elements in another order.
func shuffled[E any](all []E, random func(n int) int) []E {
	mixed := slices.Clone(all)
	for i := range mixed {
		k := i + random(len(mixed)-i)
		mixed[i], mixed[k] = mixed[k], mixed[i]
	}
	return mixed
}

// strangeValues returns different lists of values in their order. Some of them
// are invalid.
func strangeValues() [][]api.Value {
	return [][]api.Value{
		nil, vals(api.Value{Kind: -1}), vals(null), vals(null, null), vals(api.Value{Kind: api.Null, N: 1}), vals(num(-1)), vals(num(1)), vals(num(1), null),
		vals(num(1), num(2)), vals(api.Value{Kind: api.Int, N: 1, S: "a"}), vals(num(2)), vals(num(2), num(1)), vals(num(10)), vals(text("1")), vals(text("10")),
		vals(text("2")), vals(text("\xff")), vals(no), vals(yes), vals(api.Value{Kind: 9}),
	}
}

// strangeLineages returns different lineages, some of which are invalid.
func strangeLineages() [][]int {
	return [][]int{nil, ids(1), ids(2), ids(1, 2), ids(2, 1), ids(1, 1), ids(-3), ids(0)}
}

// someTuples returns up to most tuples with values of a vocabulary, which hold at
// the first n points only, some of them at no time.
func someTuples(vocabulary [][]api.Value, most, n int, random func(n int) int) []api.Tuple {
	var some []api.Tuple
	for range random(most + 1) {
		from := random(n)
		to := from + random(n-from+1)
		v, lineage := vocabulary[random(len(vocabulary))], strangeLineages()[random(len(strangeLineages()))]
		some = append(some, with(v, p(from, to), lineage...))
	}
	return some
}

// invalidPeriods returns periods that are not valid, some of which would hold at
// small points if their limits were not checked.
func invalidPeriods() []api.Period {
	const most, least = 1<<63 - 1, -1 << 63
	return []api.Period{
		p(0, 0), p(3, 3), p(4, 3), p(5, 0), p(-1, 0), p(-1, 9), p(-9, -1), p(0, -1), p(0, api.UntilChanged+1), p(3, most),
		p(least, most), p(least, 3), p(most, least), p(most, most), p(api.UntilChanged, api.UntilChanged), p(api.UntilChanged, api.UntilChanged+1),
		p(api.UntilChanged-1, api.UntilChanged+1), p(api.UntilChanged, 0),
	}
}
