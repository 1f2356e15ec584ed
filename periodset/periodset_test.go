package periodset_test

import (
	"math"
	"slices"
	"testing"

	"annalist/api"
	"annalist/period"
	"annalist/periodset"
)

const end = api.UntilChanged

// invalid are periods of every kind of mistake. Some of them have a length that
// wraps around.
var invalid = []api.Period{
	{}, p(5, 5), p(6, 5), p(-1, 5), p(-1, 0), p(-5, -1), p(0, -1), p(-1, -1), p(9, 0),
	p(0, end+1), p(5, end+1), p(-1, end), p(-1, end+1), p(end, end), p(end, end+1), p(end, 0), p(end+1, end+2),
	p(math.MinInt, math.MaxInt), p(math.MaxInt, math.MinInt), p(math.MinInt, math.MinInt), p(math.MaxInt, math.MaxInt),
	p(0, math.MinInt), p(0, math.MaxInt), p(math.MinInt, 0), p(math.MaxInt, 0), p(math.MinInt, 7), p(7, math.MaxInt),
	p(math.MinInt, end), p(1<<62, math.MaxInt),
}

func p(from, to int) api.Period { return api.Period{From: from, To: to} }

func set(periods ...api.Period) []api.Period { return periods }

// denoted returns the points that s denotes, one bool for each of the points. It
// takes the validity of a period from its definition alone.
func denoted(s []api.Period, points []int) []bool {
	in := make([]bool, len(points))
	for _, x := range s {
		if x.From < 0 || x.From >= x.To || x.To > end {
			continue
		}
		for i, point := range points {
			in[i] = in[i] || x.From <= point && point < x.To
		}
	}
	return in
}

// runs returns the normal form of the set of those points for which in is true.
// The last point is one at which no set has a point.
func runs(in []bool, points []int) []api.Period {
	var all []api.Period
	for i, point := range points[:len(points)-1] {
		if !in[i] {
			continue
		}
		next := points[i+1]
		if last := len(all) - 1; last >= 0 && all[last].To == point {
			all[last].To = next
		} else {
			all = append(all, p(point, next))
		}
	}
	return all
}

// upTo returns the points from 0 to n.
func upTo(n int) []int {
	var points []int
	for point := range n + 1 {
		points = append(points, point)
	}
	return points
}

// limits are points at and near the limits. Between two of them, a set of
// periods that start and end at limits has all points or none.
func limits() []int {
	return []int{0, 1, api.Forever - 1, api.Forever, 1 << 31, 1<<32 + 1, end - 1, end}
}

// periodsOf returns all periods, valid or not, that start and end at the points.
func periodsOf(points []int) []api.Period {
	var periods []api.Period
	for _, from := range points {
		for _, to := range points {
			periods = append(periods, p(from, to))
		}
	}
	return periods
}

// slicesOf returns the empty slice and all slices of at most three periods,
// valid or not, that start and end at the points, in any order.
func slicesOf(points []int) [][]api.Period {
	periods := periodsOf(points)
	all := [][]api.Period{nil}
	shorter := all
	for range 3 {
		var longer [][]api.Period
		for _, s := range shorter {
			for _, x := range periods {
				longer = append(longer, append(slices.Clone(s), x))
			}
		}
		all = append(all, longer...)
		shorter = longer
	}
	return all
}

// pseudoRandom returns a function that returns numbers from 0 to n-1 in an order
// that is always the same.
func pseudoRandom() func(n int) int {
	state := uint64(5)
	return func(n int) int {
		state = state*6364136223846793005 + 1442695040888963407
		return int((state >> 33) % uint64(n))
	}
}

// samples returns slices of up to eight periods that start and end at the
// points, some of which are invalid.
func samples(points []int, count int) [][]api.Period {
	random := pseudoRandom()
	var all [][]api.Period
	for range count {
		var s []api.Period
		for range random(9) {
			from, to := points[random(len(points))], points[random(len(points))]
			switch random(8) {
			case 0:
				s = append(s, invalid[random(len(invalid))])
			case 1:
				s = append(s, p(from, to))
			default:
				s = append(s, p(min(from, to), max(from, to)))
			}
		}
		all = append(all, s)
	}
	return all
}

func TestIsNormal(t *testing.T) {
	for _, s := range [][]api.Period{
		nil, {},
		set(p(0, 1)), set(p(0, end)), set(p(end-1, end)), set(p(5, 9)),
		set(p(0, 5), p(6, 9)), set(p(0, 1), p(2, 3), p(4, 5)),
		set(p(0, 9), p(20, 30)), set(p(3, api.Forever), p(api.Forever+1, end)),
	} {
		if !periodset.IsNormal(s) {
			t.Errorf("P5.1: IsNormal(%v) = false, want true", s)
		}
	}
	for _, s := range [][]api.Period{
		set(p(0, 5), p(5, 9)),                   // they meet
		set(p(0, 5), p(4, 9)),                   // they overlap
		set(p(0, 9), p(3, 4)),                   // the first contains the second
		set(p(3, 9), p(3, 9)),                   // they are equal
		set(p(6, 9), p(0, 5)),                   // they are in the wrong order
		set(p(0, 1), p(3, 5), p(5, 6), p(8, 9)), // two in the middle meet
		set(p(0, 1), p(3, 5), p(7, 8), p(8, 9)), // the last two meet
		set(p(0, 10), p(12, 13), p(11, 14)),     // the last starts before its predecessor
	} {
		if periodset.IsNormal(s) {
			t.Errorf("P5.1: IsNormal(%v) = true, want false", s)
		}
	}
}

func TestInvalidPeriodsAreNotNormal(t *testing.T) {
	for _, bad := range invalid {
		for _, s := range [][]api.Period{
			set(bad), set(bad, p(20, 30)), set(p(0, 1), bad), set(p(0, 1), bad, p(20, 30)),
		} {
			if periodset.IsNormal(s) {
				t.Errorf("P5.1: IsNormal(%v) = true, want false", s)
			}
		}
	}
}

func TestNormalize(t *testing.T) {
	tests := []struct{ s, want []api.Period }{
		{nil, nil},
		{set(), nil},
		{set(p(0, 5), p(5, 9), p(20, 30)), set(p(0, 9), p(20, 30))}, // the example of the chapter
		{set(p(20, 30), p(5, 9), p(0, 5)), set(p(0, 9), p(20, 30))},
		{set(p(0, 1)), set(p(0, 1))},
		{set(p(4, 6), p(4, 6)), set(p(4, 6))},
		{set(p(0, 5), p(6, 9)), set(p(0, 5), p(6, 9))},
		{set(p(0, 5), p(3, 9)), set(p(0, 9))},
		// A period that contains its successors still joins those after them.
		{set(p(0, 9), p(2, 3), p(9, 12)), set(p(0, 12))},
		{set(p(0, 9), p(2, 3), p(4, 5), p(8, 11)), set(p(0, 11))},
		{set(p(0, 9), p(2, 3), p(10, 12)), set(p(0, 9), p(10, 12))},
		// Periods with the same start.
		{set(p(2, 9), p(2, 3)), set(p(2, 9))},
		{set(p(2, 3), p(2, 9)), set(p(2, 9))},
		// The last period closes a gap between the first two.
		{set(p(0, 2), p(5, 7), p(2, 5)), set(p(0, 7))},
		{set(p(3, end), p(0, 3)), set(p(0, end))},
		{set(p(end-1, end), p(0, 1)), set(p(0, 1), p(end-1, end))},
	}
	for _, x := range tests {
		if got := periodset.Normalize(x.s); !slices.Equal(got, x.want) {
			t.Errorf("P5.1: Normalize(%v) = %v, want %v", x.s, got, x.want)
		}
	}
}

func TestNormalizeLeavesOutInvalidPeriods(t *testing.T) {
	if got := periodset.Normalize(invalid); len(got) != 0 {
		t.Errorf("P5.1: Normalize(%v) = %v, want nothing", invalid, got)
	}
	for _, bad := range invalid {
		for _, x := range []struct{ s, want []api.Period }{
			{set(bad), nil},
			{set(bad, p(3, 5)), set(p(3, 5))},
			{set(p(3, 5), bad), set(p(3, 5))},
			{set(p(8, 9), bad, p(3, 5)), set(p(3, 5), p(8, 9))},
			{set(p(5, 6), bad, p(3, 5), bad), set(p(3, 6))},
		} {
			if got := periodset.Normalize(x.s); !slices.Equal(got, x.want) {
				t.Errorf("P5.1: Normalize(%v) = %v, want %v", x.s, got, x.want)
			}
		}
	}
}

func TestNormalizeAgreesWithThePoints(t *testing.T) {
	for _, points := range [][]int{upTo(4), upTo(12), limits()} {
		for _, s := range slices.Concat(slicesOf(points[:5]), samples(points, 3000)) {
			want := runs(denoted(s, points), points)
			got := periodset.Normalize(s)
			if !slices.Equal(got, want) {
				t.Fatalf("P5.1: Normalize(%v) = %v, want %v", s, got, want)
			}
			if !periodset.IsNormal(got) {
				t.Fatalf("P5.1: IsNormal(Normalize(%v)) = false, want true", s)
			}
			if got, want := periodset.IsNormal(s), slices.Equal(s, want); got != want {
				t.Fatalf("P5.1: IsNormal(%v) = %v, want %v", s, got, want)
			}
		}
	}
}

func TestUnion(t *testing.T) {
	tests := []struct{ a, b, want []api.Period }{
		{nil, nil, nil},
		{set(p(3, 5)), nil, set(p(3, 5))},
		{nil, set(p(3, 5)), set(p(3, 5))},
		{set(p(0, 3)), set(p(3, 5)), set(p(0, 5))},
		{set(p(4, 5)), set(p(0, 3)), set(p(0, 3), p(4, 5))},
		{set(p(0, 10), p(20, 30)), set(p(25, 40), p(5, 8), p(8, 9)), set(p(0, 10), p(20, 40))},
		{set(p(0, 2), p(4, 6), p(8, 9)), set(p(2, 4), p(6, 8)), set(p(0, 9))},
		{set(p(7, end)), set(p(0, 7)), set(p(0, end))},
		{set(p(5, 4), p(2, 3)), set(p(-1, 9), p(2, 3)), set(p(2, 3))},
	}
	for _, x := range tests {
		if got := periodset.Union(x.a, x.b); !slices.Equal(got, x.want) {
			t.Errorf("P5.2: Union(%v, %v) = %v, want %v", x.a, x.b, got, x.want)
		}
	}
}

func TestIntersect(t *testing.T) {
	tests := []struct{ a, b, want []api.Period }{
		{nil, nil, nil},
		{set(p(3, 5)), nil, nil},
		{nil, set(p(3, 5)), nil},
		{set(p(0, 3)), set(p(3, 5)), nil},
		{set(p(3, 5)), set(p(0, 3)), nil},
		{set(p(0, 10), p(20, 30)), set(p(25, 40), p(5, 8), p(8, 9)), set(p(5, 9), p(25, 30))},
		{set(p(0, 5), p(3, 9)), set(p(4, 6), p(6, 7)), set(p(4, 7))},
		// One period of the one has several of the other.
		{set(p(0, 20)), set(p(2, 4), p(6, 8), p(19, 25)), set(p(2, 4), p(6, 8), p(19, 20))},
		{set(p(2, 4), p(6, 8), p(19, 25)), set(p(0, 20)), set(p(2, 4), p(6, 8), p(19, 20))},
		// Periods with the same end, after which both go on.
		{set(p(0, 4), p(6, 9)), set(p(2, 4), p(7, 12)), set(p(2, 4), p(7, 9))},
		// Parts of what meets in the slice are joined.
		{set(p(0, 9)), set(p(0, 3), p(3, 6), p(6, 9)), set(p(0, 9))},
		{set(p(0, end)), set(p(3, end), p(0, 1)), set(p(0, 1), p(3, end))},
		{set(p(5, 4), p(2, 3)), set(p(-1, 9), p(0, 9)), set(p(2, 3))},
	}
	for _, x := range tests {
		if got := periodset.Intersect(x.a, x.b); !slices.Equal(got, x.want) {
			t.Errorf("P5.2: Intersect(%v, %v) = %v, want %v", x.a, x.b, got, x.want)
		}
	}
}

func TestSubtract(t *testing.T) {
	tests := []struct{ a, b, want []api.Period }{
		{nil, nil, nil},
		{set(p(3, 5)), nil, set(p(3, 5))},
		{nil, set(p(3, 5)), nil},
		{set(p(0, 10), p(20, 30)), set(p(25, 40), p(5, 8), p(8, 9)), set(p(0, 5), p(9, 10), p(20, 25))},
		{set(p(25, 40), p(5, 8), p(8, 9)), set(p(0, 10), p(20, 30)), set(p(30, 40))},
		{set(p(8, 9), p(5, 8)), nil, set(p(5, 9))},
		{set(p(3, 5)), set(p(5, 9), p(0, 3)), set(p(3, 5))},
		{set(p(3, 5)), set(p(3, 5)), nil},
		{set(p(3, 5)), set(p(4, 9), p(0, 4)), nil},
		// A point of b is left out although another period of a has it too.
		{set(p(0, 5), p(3, 9)), set(p(4, 5)), set(p(0, 4), p(5, 9))},
		// The points 0 and UntilChanged-1.
		{set(p(0, end)), set(p(0, 1)), set(p(1, end))},
		{set(p(0, end)), set(p(end-1, end)), set(p(0, end-1))},
		{set(p(0, end)), set(p(1, end-1)), set(p(0, 1), p(end-1, end))},
		{set(p(0, end)), set(p(0, end)), nil},
		// An invalid period takes nothing away.
		{set(p(2, 5)), set(p(-1, 9), p(4, 3), p(0, end+1)), set(p(2, 5))},
		{set(p(-1, 9), p(2, 5)), set(p(3, 4)), set(p(2, 3), p(4, 5))},
	}
	for _, x := range tests {
		if got := periodset.Subtract(x.a, x.b); !slices.Equal(got, x.want) {
			t.Errorf("P5.2: Subtract(%v, %v) = %v, want %v", x.a, x.b, got, x.want)
		}
	}
}

func TestOperationsIgnoreInvalidPeriods(t *testing.T) {
	a, b := set(p(0, 6), p(8, 9)), set(p(4, 7))
	for _, bad := range invalid {
		worseA, worseB := set(p(8, 9), bad, p(0, 6)), set(bad, p(4, 7), bad)
		if got, want := periodset.Union(worseA, worseB), periodset.Union(a, b); !slices.Equal(got, want) {
			t.Errorf("P5.2: Union(%v, %v) = %v, want %v", worseA, worseB, got, want)
		}
		if got, want := periodset.Intersect(worseA, worseB), periodset.Intersect(a, b); !slices.Equal(got, want) {
			t.Errorf("P5.2: Intersect(%v, %v) = %v, want %v", worseA, worseB, got, want)
		}
		if got, want := periodset.Subtract(worseA, worseB), periodset.Subtract(a, b); !slices.Equal(got, want) {
			t.Errorf("P5.2: Subtract(%v, %v) = %v, want %v", worseA, worseB, got, want)
		}
		if got := periodset.Union(set(bad), set(bad)); len(got) != 0 {
			t.Errorf("P5.2: Union of %v with itself = %v, want nothing", bad, got)
		}
		if got := periodset.Intersect(set(bad), set(p(0, end))); len(got) != 0 {
			t.Errorf("P5.2: Intersect of %v with all points = %v, want nothing", bad, got)
		}
		if got := periodset.Subtract(set(bad), nil); len(got) != 0 {
			t.Errorf("P5.2: Subtract of nothing from %v = %v, want nothing", bad, got)
		}
	}
}

// operations are the three operations, and what they do with a single point.
func operations() []struct {
	name string
	do   func(a, b []api.Period) []api.Period
	has  func(inA, inB bool) bool
} {
	return []struct {
		name string
		do   func(a, b []api.Period) []api.Period
		has  func(inA, inB bool) bool
	}{
		{"Union", periodset.Union, func(inA, inB bool) bool { return inA || inB }},
		{"Intersect", periodset.Intersect, func(inA, inB bool) bool { return inA && inB }},
		{"Subtract", periodset.Subtract, func(inA, inB bool) bool { return inA && !inB }},
	}
}

func checkOperations(t *testing.T, a, b []api.Period, points []int) {
	t.Helper()
	inA, inB := denoted(a, points), denoted(b, points)
	for _, operation := range operations() {
		in := make([]bool, len(points))
		for i := range points {
			in[i] = operation.has(inA[i], inB[i])
		}
		want := runs(in, points)
		if got := operation.do(a, b); !slices.Equal(got, want) {
			t.Fatalf("P5.2: %s(%v, %v) = %v, want %v", operation.name, a, b, got, want)
		}
	}
}

// Every pair of sets of seven points.
func TestOperationsAgreeWithAllSets(t *testing.T) {
	const n = 7
	points := upTo(n)
	var sets [][]api.Period
	for mask := range 1 << n {
		in := make([]bool, n+1)
		for i := range n {
			in[i] = mask>>i&1 == 1
		}
		sets = append(sets, runs(in, points))
	}
	for _, a := range sets {
		for _, b := range sets {
			checkOperations(t, a, b, points)
		}
	}
}

// Arbitrary slices, with periods that overlap, repeat and are invalid.
func TestOperationsAgreeWithThePoints(t *testing.T) {
	for _, points := range [][]int{upTo(6), upTo(25), limits()} {
		all := samples(points, 150)
		for _, a := range all {
			for _, b := range all {
				checkOperations(t, a, b, points)
			}
		}
	}
}

func TestIncludes(t *testing.T) {
	tests := []struct {
		s       []api.Period
		in, out []int
	}{
		{nil, nil, []int{0, 1, -1, end, math.MinInt, math.MaxInt}},
		{set(p(3, 5), p(4, 9), p(12, 12)), []int{3, 4, 5, 8}, []int{2, 9, 11, 12, -4}},
		{set(p(20, 30), p(0, 5)), []int{0, 4, 20, 29}, []int{-1, 5, 19, 30}},
		{set(p(0, end)), []int{0, api.Forever, end - 1}, []int{-1, end, end + 1, math.MinInt, math.MaxInt}},
		{set(p(end-1, end)), []int{end - 1}, []int{end - 2, end, -1}},
		{invalid, nil, []int{0, 1, 5, 6, 7, -1, -3, end, end - 1, end + 1, math.MinInt, math.MaxInt, math.MaxInt - 1}},
		// An invalid period does not hide a valid one.
		{set(p(-1, 9), p(2, 4)), []int{2, 3}, []int{-1, 0, 1, 4, 8}},
		{set(p(2, 4), p(9, 1)), []int{2, 3}, []int{1, 4, 8}},
	}
	for _, x := range tests {
		for _, point := range x.in {
			if !periodset.Includes(x.s, point) {
				t.Errorf("P5.3: Includes(%v, %d) = false, want true", x.s, point)
			}
		}
		for _, point := range x.out {
			if periodset.Includes(x.s, point) {
				t.Errorf("P5.3: Includes(%v, %d) = true, want false", x.s, point)
			}
		}
	}
}

func TestLen(t *testing.T) {
	tests := []struct {
		s    []api.Period
		want int
	}{
		{nil, 0},
		{set(p(4, 5)), 1},
		{set(p(0, 5), p(5, 9), p(20, 30)), 19},
		{set(p(3, 5), p(4, 9), p(12, 12)), 6},
		{set(p(3, 5), p(3, 5), p(3, 5)), 2},
		{set(p(0, 9), p(2, 3)), 9},
		{set(p(0, api.Forever)), api.Forever},
		{set(p(0, end)), end},
		{slices.Repeat(set(p(0, end), p(1, end)), 1000), end},
		{set(p(0, 1), p(end-1, end)), 2},
		{invalid, 0},
		{append(set(p(2, 4)), invalid...), 2},
	}
	for i, x := range tests {
		if got := periodset.Len(x.s); got != x.want {
			t.Errorf("P5.3: Len of the set %d = %d, want %d", i, got, x.want)
		}
	}
}

func TestIncludesAndLenAgreeWithThePoints(t *testing.T) {
	for _, points := range [][]int{upTo(4), upTo(12), limits()} {
		for _, s := range slices.Concat(slicesOf(points[:4]), samples(points, 2000)) {
			in, length := denoted(s, points), 0
			for i, point := range points {
				if got := periodset.Includes(s, point); got != in[i] {
					t.Fatalf("P5.3: Includes(%v, %d) = %v, want %v", s, point, got, in[i])
				}
				if in[i] {
					length += points[i+1] - point
				}
			}
			if got := periodset.Len(s); got != length {
				t.Fatalf("P5.3: Len(%v) = %d, want %d", s, got, length)
			}
		}
	}
}

// Two slices have equal normal forms exactly if they denote the same set.
func TestEqualNormalForms(t *testing.T) {
	for _, points := range [][]int{upTo(4), limits()[3:]} {
		all := slices.Concat(slicesOf(points[:3]), samples(points, 1000))
		var in [][]bool
		var forms [][]api.Period
		for _, s := range all {
			in = append(in, denoted(s, points))
			forms = append(forms, periodset.Normalize(s))
		}
		for i, a := range all {
			for k, b := range all {
				same := slices.Equal(in[i], in[k])
				if equal := slices.Equal(forms[i], forms[k]); equal != same {
					t.Fatalf("P5.4: the normal forms of %v and %v are %v and %v; equal: %v, want %v", a, b, forms[i], forms[k], equal, same)
				}
			}
		}
	}
}

func TestNormalFormOfAnOrderIsThatOfAnother(t *testing.T) {
	for _, s := range samples(upTo(15), 500) {
		want := periodset.Normalize(s)
		reversed := slices.Clone(s)
		slices.Reverse(reversed)
		for _, other := range [][]api.Period{reversed, want, slices.Concat(s, reversed), slices.Concat(want, invalid)} {
			if got := periodset.Normalize(other); !slices.Equal(got, want) {
				t.Fatalf("P5.4: Normalize(%v) = %v, want %v as for %v", other, got, want, s)
			}
		}
	}
}

// The arguments are left as they are, also what lies behind them in memory.
func TestArgumentsAreNotChanged(t *testing.T) {
	behind := slices.Repeat(set(p(50, 60)), 10)
	a := append(set(p(20, 30), p(7, 3), p(0, 5), p(5, 9)), behind...)
	b := append(set(p(25, 40), p(-1, 4), p(5, 8), p(8, 9)), behind...)
	keptA, keptB := slices.Clone(a), slices.Clone(b)
	checkKept := func(name string) {
		t.Helper()
		if !slices.Equal(a, keptA) || !slices.Equal(b, keptB) {
			t.Fatalf("P5.1 to P5.3: %s changed its arguments", name)
		}
	}
	periodset.Normalize(a[:4])
	checkKept("Normalize")
	for _, operation := range operations() {
		operation.do(a[:4], b[:4])
		checkKept(operation.name)
	}
	periodset.IsNormal(a[:4])
	periodset.Includes(a[:4], 3)
	periodset.Len(a[:4])
	checkKept("IsNormal, Includes or Len")
}

// A result shares no memory with the arguments, even where they are its normal
// form already or the other set is empty.
func TestResultsAreNewMemory(t *testing.T) {
	s := set(p(0, 5), p(7, 9), p(20, 30))
	kept := slices.Clone(s)
	all := set(p(0, end))
	for _, result := range [][]api.Period{
		periodset.Normalize(s),
		periodset.Union(s, nil), periodset.Union(nil, s),
		periodset.Intersect(s, all), periodset.Intersect(all, s), periodset.Intersect(s, s),
		periodset.Subtract(s, nil), periodset.Subtract(s, set(p(40, 50))),
	} {
		if !slices.Equal(result, kept) {
			t.Fatalf("P5.1, P5.2: the result is %v, want %v", result, kept)
		}
		clear(result[:cap(result)])
		if !slices.Equal(s, kept) || all[0] != p(0, end) {
			t.Fatalf("P5.1, P5.2: a change of a result changed an argument")
		}
	}
}

// Long slices whose periods interleave.
func TestLongSlices(t *testing.T) {
	const n = 200_000
	var a, b []api.Period
	for i := range n {
		from := 10 * ((i * 77_777) % n)
		a = append(a, p(from, from+6))
		b = append(b, p(from+4, from+8))
	}
	union, common, rest := periodset.Union(a, b), periodset.Intersect(a, b), periodset.Subtract(a, b)
	if len(union) != n || len(common) != n || len(rest) != n {
		t.Fatalf("P5.2: %d, %d and %d periods, want %d", len(union), len(common), len(rest), n)
	}
	for i := range n {
		from := 10 * i
		if union[i] != p(from, from+8) || common[i] != p(from+4, from+6) || rest[i] != p(from, from+4) {
			t.Fatalf("P5.2: the periods from %d on are %v, %v and %v", from, union[i], common[i], rest[i])
		}
	}
	if got := periodset.Len(slices.Concat(a, b)); got != 8*n {
		t.Errorf("P5.3: Len = %d, want %d", got, 8*n)
	}
}

// A single period agrees with layer 4.
func TestSinglePeriodsAgreeWithPeriod(t *testing.T) {
	all := slices.Concat(periodsOf(upTo(6)), periodsOf(limits()), invalid)
	for _, a := range all {
		for _, b := range all {
			want := period.Subtract(a, b)
			if got := periodset.Subtract(set(a), set(b)); !slices.Equal(got, want) {
				t.Fatalf("P5.2: Subtract({%v}, {%v}) = %v, want %v", a, b, got, want)
			}
			part, ok := period.Intersect(a, b)
			got := periodset.Intersect(set(a), set(b))
			if ok && !slices.Equal(got, set(part)) || !ok && len(got) != 0 {
				t.Fatalf("P5.2: Intersect({%v}, {%v}) = %v, want %v, %v", a, b, got, part, ok)
			}
		}
	}
}
