package period_test

import (
	"math"
	"slices"
	"strings"
	"testing"

	"annalist/api"
	"annalist/period"
)

var noPeriod = api.Period{}

// letters are the usual abbreviations of the relations, in ascending order.
const letters = "pmoFDseSdfOMP"

// invalid are periods of every kind of mistake. Some of them have a length that
// wraps around.
var invalid = []api.Period{
	{}, p(5, 5), p(6, 5), p(-1, 5), p(-1, 0), p(-5, -1), p(0, -1), p(-1, -1),
	p(api.Forever, api.Forever), p(api.Forever, 0),
	p(0, api.UntilChanged+1), p(5, api.UntilChanged+1), p(-1, api.UntilChanged), p(-1, api.UntilChanged+1),
	p(api.UntilChanged, api.UntilChanged), p(api.UntilChanged, api.UntilChanged+1), p(api.UntilChanged, 0),
	p(math.MinInt, math.MaxInt), p(math.MaxInt, math.MinInt), p(math.MinInt, math.MinInt), p(math.MaxInt, math.MaxInt),
	p(0, math.MinInt), p(0, math.MaxInt), p(math.MinInt, 0), p(math.MaxInt, 0), p(math.MinInt, 7), p(7, math.MaxInt),
	p(math.MinInt, api.UntilChanged), p(1<<62, math.MaxInt),
}

// noRelations are numbers that are not relations. Some of them are cut down to
// that of a relation when they are truncated.
var noRelations = []int{
	0, -1, -7, -13, 14, 15, 20, 26, 255, 256, 257, 1<<16 + 1, 1<<32 + 7, -1<<32 + 7, 1 << 62, math.MinInt, math.MinInt + 7, math.MaxInt,
}

func p(from, to int) api.Period { return api.Period{From: from, To: to} }

// periodsUpTo returns all valid periods that end at n or before.
func periodsUpTo(n int) []api.Period {
	var all []api.Period
	for to := 1; to <= n; to++ {
		for from := 0; from < to; from++ {
			all = append(all, p(from, to))
		}
	}
	return all
}

// largePeriods returns all valid periods whose ends are at or near the limits.
func largePeriods() []api.Period {
	points := []int{
		0, 1, api.Forever - 1, api.Forever, api.Forever + 1, 1 << 31, 1<<32 + 1,
		api.UntilChanged - 2, api.UntilChanged - 1, api.UntilChanged,
	}
	var all []api.Period
	for i, from := range points {
		for _, to := range points[i+1:] {
			all = append(all, p(from, to))
		}
	}
	return all
}

// defined returns the relations whose conditions in the table of the chapter
// hold between a and b.
func defined(a, b api.Period) []int {
	conditions := []struct {
		relation int
		holds    bool
	}{
		{api.Before, a.To < b.From},
		{api.Meets, a.To == b.From},
		{api.Overlaps, a.From < b.From && b.From < a.To && a.To < b.To},
		{api.FinishedBy, a.From < b.From && a.To == b.To},
		{api.Contains, a.From < b.From && b.To < a.To},
		{api.Starts, a.From == b.From && a.To < b.To},
		{api.Equals, a == b},
	}
	var relations []int
	for _, c := range conditions {
		if c.holds {
			relations = append(relations, c.relation)
		}
	}
	return relations
}

// converse names the converse of each relation, as the chapter does.
func converse(relation int) int {
	return map[int]int{
		api.Starts: api.StartedBy, api.StartedBy: api.Starts,
		api.Contains: api.During, api.During: api.Contains,
		api.FinishedBy: api.Finishes, api.Finishes: api.FinishedBy,
		api.Overlaps: api.OverlappedBy, api.OverlappedBy: api.Overlaps,
		api.Meets: api.MetBy, api.MetBy: api.Meets,
		api.Before: api.After, api.After: api.Before,
		api.Equals: api.Equals,
	}[relation]
}

// holding returns all relations that hold between a and b: those that the table
// defines, and the converses of those that it defines between b and a.
func holding(a, b api.Period) []int {
	relations := defined(a, b)
	for _, relation := range defined(b, a) {
		relations = append(relations, converse(relation))
	}
	slices.Sort(relations)
	return slices.Compact(relations)
}

func TestValid(t *testing.T) {
	tests := []struct {
		p           api.Period
		valid, days bool
	}{
		{p(0, 1), true, true},
		{p(5, 9), true, true},
		{p(0, api.Forever), true, true},
		{p(api.Forever-1, api.Forever), true, true},
		{p(0, api.Forever+1), true, false},
		{p(api.Forever-1, api.Forever+1), true, false},
		{p(api.Forever, api.Forever+1), true, false},
		{p(0, 1<<32), true, false},
		{p(0, 1<<32+5), true, false},
		{p(0, api.UntilChanged-1), true, false},
		{p(0, api.UntilChanged), true, false},
		{p(api.UntilChanged-1, api.UntilChanged), true, false},
	}
	for _, x := range tests {
		if got := period.Valid(x.p); got != x.valid {
			t.Errorf("P4.1: Valid(%v) = %v, want %v", x.p, got, x.valid)
		}
		if got := period.ValidDays(x.p); got != x.days {
			t.Errorf("P4.1: ValidDays(%v) = %v, want %v", x.p, got, x.days)
		}
	}
}

func TestInvalidPeriods(t *testing.T) {
	for _, bad := range invalid {
		if period.Valid(bad) {
			t.Errorf("P4.1: Valid(%v) = true, want false", bad)
		}
		if period.ValidDays(bad) {
			t.Errorf("P4.1: ValidDays(%v) = true, want false", bad)
		}
		for _, point := range []int{bad.From, bad.From + 1, bad.To - 1, bad.To, 0, 1, 5, -1, math.MinInt, math.MaxInt} {
			if period.Includes(bad, point) {
				t.Errorf("P4.1: Includes(%v, %d) = true, want false", bad, point)
			}
		}
	}
}

func TestIncludes(t *testing.T) {
	for _, x := range slices.Concat(periodsUpTo(7), largePeriods()) {
		inside := []int{x.From, x.From + (x.To-x.From)/2, x.To - 1}
		for _, point := range inside {
			if !period.Includes(x, point) {
				t.Errorf("P4.1: Includes(%v, %d) = false, want true", x, point)
			}
		}
		outside := []int{
			x.From - 1, x.To, x.To + 1, -1, -x.From - 1, x.From + 1<<42, x.From - 1<<42, math.MinInt, math.MinInt + x.From, math.MaxInt,
		}
		for _, point := range outside {
			if period.Includes(x, point) {
				t.Errorf("P4.1: Includes(%v, %d) = true, want false", x, point)
			}
		}
	}
}

func TestRelation(t *testing.T) {
	tests := []struct {
		a, b api.Period
		want int
	}{
		{p(0, 5), p(5, 9), api.Meets}, // the example of the chapter
		{p(10, 20), p(21, 30), api.Before},
		{p(10, 20), p(20, 30), api.Meets},
		{p(10, 20), p(19, 30), api.Overlaps},
		{p(10, 20), p(11, 20), api.FinishedBy},
		{p(10, 20), p(11, 19), api.Contains},
		{p(10, 20), p(10, 21), api.Starts},
		{p(10, 20), p(10, 20), api.Equals},
		{p(10, 20), p(10, 19), api.StartedBy},
		{p(10, 20), p(9, 21), api.During},
		{p(10, 20), p(9, 20), api.Finishes},
		{p(10, 20), p(9, 11), api.OverlappedBy},
		{p(10, 20), p(9, 10), api.MetBy},
		{p(10, 20), p(8, 9), api.After},
		// Periods of a single point.
		{p(3, 4), p(4, 5), api.Meets},
		{p(3, 4), p(5, 6), api.Before},
		{p(3, 4), p(3, 4), api.Equals},
		{p(3, 4), p(3, 5), api.Starts},
		{p(4, 5), p(3, 5), api.Finishes},
		{p(4, 5), p(3, 6), api.During},
		// Periods that never end.
		{p(0, api.UntilChanged), p(0, api.UntilChanged), api.Equals},
		{p(7, api.UntilChanged), p(0, api.UntilChanged), api.Finishes},
		{p(7, api.Forever), p(3, api.UntilChanged), api.During},
		{p(0, api.Forever), p(api.Forever, api.UntilChanged), api.Meets},
	}
	for _, x := range tests {
		if got := period.Relation(x.a, x.b); got != x.want {
			t.Errorf("P4.2: Relation(%v, %v) = %d, want %d", x.a, x.b, got, x.want)
		}
	}
}

func TestRelationOfInvalidPeriods(t *testing.T) {
	for _, bad := range invalid {
		for _, other := range slices.Concat(periodsUpTo(6), largePeriods(), invalid) {
			if got := period.Relation(bad, other); got != 0 {
				t.Errorf("P4.2: Relation(%v, %v) = %d, want 0", bad, other, got)
			}
			if got := period.Relation(other, bad); got != 0 {
				t.Errorf("P4.2: Relation(%v, %v) = %d, want 0", other, bad, got)
			}
		}
	}
}

func TestExactlyOneRelationHolds(t *testing.T) {
	found := map[int]bool{}
	for _, all := range [][]api.Period{periodsUpTo(9), largePeriods()} {
		for _, a := range all {
			for _, b := range all {
				want := holding(a, b)
				if len(want) != 1 {
					t.Fatalf("P4.6: %v hold between %v and %v, want one relation", want, a, b)
				}
				got := period.Relation(a, b)
				if got != want[0] {
					t.Errorf("P4.2, P4.6: Relation(%v, %v) = %d, want %d", a, b, got, want[0])
				}
				if back := period.Relation(b, a); back != period.Inverse(got) {
					t.Errorf("P4.2: Relation(%v, %v) = %d, want the converse of %d", b, a, back, got)
				}
				found[got] = true
			}
		}
	}
	if len(found) != len(letters) {
		t.Errorf("P4.6: %d relations occur, want %d", len(found), len(letters))
	}
}

func TestInverse(t *testing.T) {
	for relation := api.Before; relation <= api.After; relation++ {
		if got, want := period.Inverse(relation), converse(relation); got != want {
			t.Errorf("P4.2: Inverse(%d) = %d, want %d", relation, got, want)
		}
	}
	for _, relation := range noRelations {
		if got := period.Inverse(relation); got != 0 {
			t.Errorf("P4.2: Inverse(%d) = %d, want 0", relation, got)
		}
	}
}

// compositions is the composition table of Allen's algebra as it is usually
// printed: a line for each r, with an entry for each s.
const compositions = `
p p p p p p p p pmosd pmosd pmosd pmosd pmoFDseSdfOMP
p p p p p m m m osd osd osd Fef DSOMP
p p pmo pmo pmoFD o o oFD osd osd oFDseSdfO DSO DSOMP
p m o F D o F D osd Fef DSO DSO DSOMP
pmoFD oFD oFD D D oFD D D oFDseSdfO DSO DSO DSO DSOMP
p p pmo pmo pmoFD s s seS d d dfO M P
p m o F D s e S d f O M P
pmoFD oFD oFD D D seS S S dfO O O M P
p p pmosd pmosd pmoFDseSdfOMP d d dfOMP d d dfOMP P P
p m osd Fef DSOMP d f OMP d f OMP P P
pmoFD oFD oFDseSdfO DSO DSOMP dfO O OMP dfO O OMP P P
pmoFD seS dfO M P dfO M P dfO M P P P
pmoFDseSdfOMP dfOMP dfOMP P P dfOMP P P dfOMP P P P P
`

func TestComposeAgreesWithTheUsualTable(t *testing.T) {
	lines := strings.Split(strings.TrimSpace(compositions), "\n")
	if len(lines) != len(letters) {
		t.Fatalf("the table has %d lines, want %d", len(lines), len(letters))
	}
	for i, line := range lines {
		entries := strings.Fields(line)
		if len(entries) != len(letters) {
			t.Fatalf("line %d of the table has %d entries, want %d", i, len(entries), len(letters))
		}
		for k, entry := range entries {
			var want []int
			for _, letter := range entry {
				want = append(want, strings.IndexRune(letters, letter)+1)
			}
			if got := period.Compose(i+1, k+1); !slices.Equal(got, want) {
				t.Errorf("P4.3: Compose(%d, %d) = %v, want %v", i+1, k+1, got, want)
			}
		}
	}
}

// More points than three periods can have ends do not make more relations
// possible.
func TestComposeAgreesWithAllPeriods(t *testing.T) {
	var possible [api.After + 1][api.After + 1][api.After + 1]bool
	all := periodsUpTo(8)
	for _, a := range all {
		for _, b := range all {
			r := holding(a, b)[0]
			for _, c := range all {
				possible[r][period.Relation(b, c)][period.Relation(a, c)] = true
			}
		}
	}
	for r := api.Before; r <= api.After; r++ {
		for s := api.Before; s <= api.After; s++ {
			var want []int
			for relation, ok := range possible[r][s] {
				if ok {
					want = append(want, relation)
				}
			}
			if got := period.Compose(r, s); !slices.Equal(got, want) {
				t.Errorf("P4.3: Compose(%d, %d) = %v, want %v", r, s, got, want)
			}
		}
	}
}

func TestComposeOfWhatIsNoRelation(t *testing.T) {
	for _, bad := range noRelations {
		for other := api.Before; other <= api.After; other++ {
			if got := period.Compose(bad, other); len(got) != 0 {
				t.Errorf("P4.3: Compose(%d, %d) = %v, want nothing", bad, other, got)
			}
			if got := period.Compose(other, bad); len(got) != 0 {
				t.Errorf("P4.3: Compose(%d, %d) = %v, want nothing", other, bad, got)
			}
		}
		for _, other := range noRelations {
			if got := period.Compose(bad, other); len(got) != 0 {
				t.Errorf("P4.3: Compose(%d, %d) = %v, want nothing", bad, other, got)
			}
		}
	}
}

func TestComposeReturnsNewMemory(t *testing.T) {
	first := period.Compose(api.Before, api.After)
	want := slices.Clone(first)
	second := period.Compose(api.Before, api.After)
	clear(first[:cap(first)])
	third := period.Compose(api.Before, api.After)
	if !slices.Equal(second, want) || !slices.Equal(third, want) {
		t.Errorf("P4.3: after a change of an earlier result, Compose = %v and %v, want %v", second, third, want)
	}
}

func TestIntersect(t *testing.T) {
	tests := []struct{ a, b, want api.Period }{
		{p(0, 5), p(3, 9), p(3, 5)},
		{p(3, 9), p(0, 5), p(3, 5)},
		{p(0, 9), p(3, 5), p(3, 5)},
		{p(0, 9), p(0, 5), p(0, 5)},
		{p(0, 9), p(5, 9), p(5, 9)},
		{p(2, 7), p(2, 7), p(2, 7)},
		{p(0, 5), p(4, 9), p(4, 5)},
		{p(8, api.Forever), p(3, api.UntilChanged), p(8, api.Forever)},
		{p(0, api.UntilChanged), p(api.UntilChanged-1, api.UntilChanged), p(api.UntilChanged-1, api.UntilChanged)},
	}
	for _, x := range tests {
		if got, ok := period.Intersect(x.a, x.b); got != x.want || !ok {
			t.Errorf("P4.4: Intersect(%v, %v) = %v, %v, want %v, true", x.a, x.b, got, ok, x.want)
		}
	}
	for _, x := range [][2]api.Period{
		{p(0, 3), p(3, 9)}, {p(3, 9), p(0, 3)}, {p(0, 3), p(4, 9)}, {p(4, 9), p(0, 3)},
		{p(0, api.Forever), p(api.Forever, api.UntilChanged)},
	} {
		if got, ok := period.Intersect(x[0], x[1]); got != noPeriod || ok {
			t.Errorf("P4.4: Intersect(%v, %v) = %v, %v, want a zero period and false", x[0], x[1], got, ok)
		}
	}
}

func TestIntersectInvalidPeriods(t *testing.T) {
	for _, bad := range invalid {
		for _, other := range slices.Concat(periodsUpTo(6), largePeriods(), invalid) {
			if got, ok := period.Intersect(bad, other); got != noPeriod || ok {
				t.Errorf("P4.4: Intersect(%v, %v) = %v, %v, want a zero period and false", bad, other, got, ok)
			}
			if got, ok := period.Intersect(other, bad); got != noPeriod || ok {
				t.Errorf("P4.4: Intersect(%v, %v) = %v, %v, want a zero period and false", other, bad, got, ok)
			}
		}
	}
}

func TestSubtract(t *testing.T) {
	tests := []struct {
		a, b api.Period
		want []api.Period
	}{
		{p(0, 9), p(3, 5), []api.Period{p(0, 3), p(5, 9)}},
		{p(0, 9), p(1, 8), []api.Period{p(0, 1), p(8, 9)}},
		{p(2, 9), p(2, 5), []api.Period{p(5, 9)}},
		{p(2, 9), p(0, 5), []api.Period{p(5, 9)}},
		{p(2, 9), p(5, 9), []api.Period{p(2, 5)}},
		{p(2, 9), p(5, 20), []api.Period{p(2, 5)}},
		// Nothing is left.
		{p(3, 5), p(0, 9), nil},
		{p(3, 5), p(3, 9), nil},
		{p(3, 5), p(0, 5), nil},
		{p(3, 5), p(3, 5), nil},
		// Nothing is taken away.
		{p(3, 5), p(5, 9), []api.Period{p(3, 5)}},
		{p(5, 9), p(3, 5), []api.Period{p(5, 9)}},
		{p(3, 5), p(6, 9), []api.Period{p(3, 5)}},
		{p(6, 9), p(3, 5), []api.Period{p(6, 9)}},
		// The period never ends.
		{p(3, api.UntilChanged), p(5, api.Forever), []api.Period{p(3, 5), p(api.Forever, api.UntilChanged)}},
		{p(3, api.Forever), p(5, api.UntilChanged), []api.Period{p(3, 5)}},
		{p(0, api.UntilChanged), p(0, api.UntilChanged-1), []api.Period{p(api.UntilChanged-1, api.UntilChanged)}},
	}
	for _, x := range tests {
		if got := period.Subtract(x.a, x.b); !slices.Equal(got, x.want) {
			t.Errorf("P4.5: Subtract(%v, %v) = %v, want %v", x.a, x.b, got, x.want)
		}
	}
}

func TestSubtractInvalidPeriods(t *testing.T) {
	for _, bad := range invalid {
		for _, other := range slices.Concat(periodsUpTo(6), largePeriods()) {
			if got := period.Subtract(bad, other); len(got) != 0 {
				t.Errorf("P4.5: Subtract(%v, %v) = %v, want nothing", bad, other, got)
			}
			if got := period.Subtract(other, bad); !slices.Equal(got, []api.Period{other}) {
				t.Errorf("P4.5: Subtract(%v, %v) = %v, want %v alone", other, bad, got, other)
			}
		}
		for _, other := range invalid {
			if got := period.Subtract(bad, other); len(got) != 0 {
				t.Errorf("P4.5: Subtract(%v, %v) = %v, want nothing", bad, other, got)
			}
		}
	}
}

// runs returns the longest periods of consecutive points below n that satisfy
// the condition.
func runs(n int, holds func(point int) bool) []api.Period {
	var all []api.Period
	for point := range n {
		if !holds(point) {
			continue
		}
		if last := len(all) - 1; last >= 0 && all[last].To == point {
			all[last].To++
		} else {
			all = append(all, p(point, point+1))
		}
	}
	return all
}

func TestIntersectAndSubtractAgreeWithTheirPoints(t *testing.T) {
	const end = 9
	isIn := func(x api.Period, point int) bool { return x.From <= point && point < x.To }
	for _, a := range periodsUpTo(end) {
		for _, b := range periodsUpTo(end) {
			common := runs(end, func(point int) bool { return isIn(a, point) && isIn(b, point) })
			got, ok := period.Intersect(a, b)
			if len(common) == 0 && (got != noPeriod || ok) {
				t.Errorf("P4.4: Intersect(%v, %v) = %v, %v, want a zero period and false", a, b, got, ok)
			}
			if len(common) == 1 && (got != common[0] || !ok) {
				t.Errorf("P4.4: Intersect(%v, %v) = %v, %v, want %v, true", a, b, got, ok, common[0])
			}
			rest := runs(end, func(point int) bool { return isIn(a, point) && !isIn(b, point) })
			if got := period.Subtract(a, b); !slices.Equal(got, rest) {
				t.Errorf("P4.5: Subtract(%v, %v) = %v, want %v", a, b, got, rest)
			}
		}
	}
}
