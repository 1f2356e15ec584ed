package tuple_test

import (
	"cmp"
	"slices"

	"annalist/api"
	"annalist/bag"
	"annalist/periodset"
)

var (
	null = api.Value{Kind: api.Null}
	no   = api.Value{Kind: api.Bool, N: 0}
	yes  = api.Value{Kind: api.Bool, N: 1}
)

func num(n int64) api.Value { return api.Value{Kind: api.Int, N: n} }

func text(s string) api.Value { return api.Value{Kind: api.Text, S: s} }

func vals(all ...api.Value) []api.Value { return all }

func ids(all ...int) []int { return all }

func p(from, to int) api.Period { return api.Period{From: from, To: to} }

func row(v []api.Value, lineage ...int) api.Row { return api.Row{Vals: v, Lineage: lineage} }

// one returns a row with a single Int.
func one(n int64, lineage ...int) api.Row { return row(vals(num(n)), lineage...) }

func rows(all ...api.Row) []api.Row { return all }

// during returns a row as a tuple that shares the row's contents.
func during(r api.Row, valid api.Period) api.Tuple {
	return api.Tuple{Vals: r.Vals, Valid: valid, Lineage: r.Lineage}
}

// fact returns a tuple with a single Int.
func fact(n int64, valid api.Period, lineage ...int) api.Tuple {
	return during(one(n, lineage...), valid)
}

func tuples(all ...api.Tuple) []api.Tuple { return all }

func rowOf(t api.Tuple) api.Row { return row(t.Vals, t.Lineage...) }

func sameRow(a, b api.Row) bool {
	return slices.Equal(a.Vals, b.Vals) && slices.Equal(a.Lineage, b.Lineage)
}

// sameRows reports whether two slices have the same rows in the same order.
func sameRows(a, b []api.Row) bool { return slices.EqualFunc(a, b, sameRow) }

func sameTuple(a, b api.Tuple) bool { return a.Valid == b.Valid && sameRow(rowOf(a), rowOf(b)) }

// same reports whether two slices have the same tuples in the same order.
func same(a, b []api.Tuple) bool { return slices.EqualFunc(a, b, sameTuple) }

// copied returns the tuples in memory of their own.
func copied(all []api.Tuple) []api.Tuple {
	var copies []api.Tuple
	for _, t := range all {
		copies = append(copies, during(row(slices.Clone(t.Vals), slices.Clone(t.Lineage)...), t.Valid))
	}
	return copies
}

// holds is the definition of when a tuple holds.
func holds(t api.Tuple, at int) bool {
	return t.Valid.From >= 0 && t.Valid.To <= api.UntilChanged && t.Valid.From <= at && at < t.Valid.To
}

// wantTimeslice is the definition of the timeslice.
func wantTimeslice(all []api.Tuple, at int) []api.Row {
	var slice []api.Row
	for _, t := range all {
		if holds(t, at) {
			slice = append(slice, rowOf(t))
		}
	}
	return bag.Sort(slice)
}

// wantNormal is the definition of the normal form, for tuples that hold at the
// first n points only.
func wantNormal(all []api.Tuple, n int) []api.Tuple {
	var normal []api.Tuple
	for _, r := range distinctRows(all) {
		var periods []api.Period
		for k := 1; k <= len(all); k++ {
			periods = append(periods, periodset.Normalize(pointsOfLevel(all, r, k, n))...)
		}
		slices.SortFunc(periods, func(a, b api.Period) int {
			return cmp.Or(cmp.Compare(a.From, b.From), cmp.Compare(a.To, b.To))
		})
		for _, valid := range periods {
			normal = append(normal, during(r, valid))
		}
	}
	return normal
}

// distinctRows returns the different rows of the tuples in canonical order.
func distinctRows(all []api.Tuple) []api.Row {
	var found []api.Row
	for _, t := range all {
		found = append(found, rowOf(t))
	}
	return slices.CompactFunc(bag.Sort(found), sameRow)
}

// pointsOfLevel returns those of the first n points at which at least k tuples
// with the given row hold.
func pointsOfLevel(all []api.Tuple, r api.Row, k, n int) []api.Period {
	var points []api.Period
	for at := range n {
		held := 0
		for _, t := range all {
			if holds(t, at) && sameRow(rowOf(t), r) {
				held++
			}
		}
		if held >= k {
			points = append(points, p(at, at+1))
		}
	}
	return points
}

// wantEquivalent is the definition of snapshot equivalence, for tuples that hold
// at the first n points only.
func wantEquivalent(a, b []api.Tuple, n int) bool {
	for at := range n {
		if !sameRows(wantTimeslice(a, at), wantTimeslice(b, at)) {
			return false
		}
	}
	return true
}

// periodsOf returns all periods of the first n points.
func periodsOf(n int) []api.Period {
	var all []api.Period
	for from := range n {
		for to := from + 1; to <= n; to++ {
			all = append(all, p(from, to))
		}
	}
	return all
}

// slicesOf returns all slices of at most the given length whose elements are
// taken from a vocabulary.
func slicesOf[E any](vocabulary []E, most int) [][]E {
	all := [][]E{nil}
	shorter := all
	for range most {
		var longer [][]E
		for _, s := range shorter {
			for _, e := range vocabulary {
				longer = append(longer, append(slices.Clone(s), e))
			}
		}
		all = append(all, longer...)
		shorter = longer
	}
	return all
}

// pseudoRandom returns a function that returns numbers from 0 to n-1 in an order
// that is always the same.
func pseudoRandom() func(n int) int {
	state := uint64(10)
	return func(n int) int {
		state = state*6364136223846793005 + 1442695040888963407
		return int((state >> 33) % uint64(n))
	}
}

// shuffled returns the elements in another order.
func shuffled[E any](all []E, random func(n int) int) []E {
	mixed := slices.Clone(all)
	for i := range mixed {
		k := i + random(len(mixed)-i)
		mixed[i], mixed[k] = mixed[k], mixed[i]
	}
	return mixed
}

// strangeRows returns different rows in canonical order. Some of them have
// invalid values or lineages.
func strangeRows() []api.Row {
	return rows(
		row(nil), row(nil, -3), row(nil, 2), row(vals(null)), row(vals(null, null)),
		one(-1), one(1), one(1, -1), one(1, 1), one(1, 1, 1), one(1, 1, 2), one(1, 2), one(1, 2, 1), one(1, 10),
		row(vals(num(1), null), 3), row(vals(api.Value{Kind: api.Int, N: 1, S: "a"})), one(2), one(10),
		row(vals(text("1")), 1), row(vals(text("10"))), row(vals(text("2"))), row(vals(no)), row(vals(yes)), row(vals(api.Value{Kind: 9})),
	)
}

// someTuples returns up to most tuples with rows of a vocabulary, which hold at
// the first n points only, some of them at no time.
func someTuples(vocabulary []api.Row, most, n int, random func(n int) int) []api.Tuple {
	var some []api.Tuple
	for range random(most + 1) {
		from := random(n)
		to := from + random(n-from+1)
		some = append(some, during(vocabulary[random(len(vocabulary))], p(from, to)))
	}
	return some
}

// invalidPeriods returns periods that are not valid, some of which would hold at
// small points if their limits were not checked.
func invalidPeriods() []api.Period {
	const most, least = 1<<63 - 1, -1 << 63
	return []api.Period{
		p(0, 0), p(3, 3), p(4, 3), p(5, 0), p(-1, 0), p(-1, 9), p(-9, -1), p(0, -1), p(0, api.UntilChanged+1), p(3, most),
		p(least, most), p(least, 3), p(most, least), p(most, most), p(api.UntilChanged, api.UntilChanged), p(api.UntilChanged, api.UntilChanged+1),
		p(api.UntilChanged-1, api.UntilChanged+1), p(api.UntilChanged, 0),
	}
}
