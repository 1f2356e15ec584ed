package granule_test

import (
	"math"
	"slices"
	"testing"
	"time"

	"annalist/api"
	"annalist/granule"
)

var (
	days     = api.Granularity{Kind: api.Days}
	weeks    = api.Granularity{Kind: api.Weeks}
	months   = api.Granularity{Kind: api.Months, Start: 1}
	years    = api.Granularity{Kind: api.Years, Start: 1}
	allTime  = api.Period{From: 0, To: api.Forever}
	noPeriod = api.Period{}
)

// extremes are integers that are far from everything that has a meaning. Some
// of them wrap around to a small number when they are multiplied or truncated.
var extremes = []int{
	math.MinInt, math.MinInt + 1, -1 << 32, -api.Forever, -2, -1,
	api.Forever, api.Forever + 1, 1 << 32, 1 << 62, 1 << 63 / 3, 1 << 63 / 7, 1 << 63 / 53,
	math.MaxInt - 1, math.MaxInt,
}

func month(start int) api.Granularity {
	return api.Granularity{Kind: api.Months, Start: start}
}

func quarter(start int) api.Granularity {
	return api.Granularity{Kind: api.Quarters, Start: start}
}

func year(start int) api.Granularity {
	return api.Granularity{Kind: api.Years, Start: start}
}

// allValid returns every valid granularity.
func allValid() []api.Granularity {
	all := []api.Granularity{days, weeks}
	for start := 1; start <= 28; start++ {
		all = append(all, month(start))
	}
	for start := 1; start <= 12; start++ {
		all = append(all, quarter(start), year(start))
	}
	return all
}

// someInvalid returns granularities of every kind of mistake.
func someInvalid() []api.Granularity {
	all := []api.Granularity{
		month(0), month(29), month(30), month(31), month(-1),
		quarter(0), quarter(13), quarter(-1), quarter(-2),
		year(0), year(13), year(-1), year(24),
	}
	for _, start := range []int{-1, 1, 2, 7, math.MinInt, math.MaxInt} {
		all = append(all, api.Granularity{Kind: api.Days, Start: start}, api.Granularity{Kind: api.Weeks, Start: start})
	}
	for _, start := range []int{math.MinInt, math.MaxInt, 1 << 32, 1<<32 + 1, math.MinInt + 1} {
		all = append(all, month(start), quarter(start), year(start))
	}
	for _, kind := range []int{0, -1, api.Years + 1, math.MinInt, math.MaxInt, 1<<32 + api.Days} {
		all = append(all, api.Granularity{Kind: kind}, api.Granularity{Kind: kind, Start: 1})
	}
	return all
}

// date is a day as the standard library describes it, which serves as an
// independent reference.
type date struct{ month, day, weekday int }

func calendar() []date {
	all := make([]date, api.Forever)
	now := time.Date(1600, time.January, 1, 0, 0, 0, 0, time.UTC)
	for i := range all {
		_, m, d := now.Date()
		all[i] = date{int(m), d, int(now.Weekday())}
		now = now.AddDate(0, 0, 1)
	}
	return all
}

// starts reports whether a granule starts on the date, in the words of the
// chapter. Day 0 is not treated specially here.
func starts(g api.Granularity, d date) bool {
	switch g.Kind {
	case api.Days:
		return true
	case api.Weeks:
		return d.weekday == int(time.Monday) || d.month == 1 && d.day == 1
	case api.Months:
		return d.day == g.Start
	case api.Quarters:
		return d.day == 1 && (d.month-g.Start)%3 == 0
	}
	return d.day == 1 && d.month == g.Start
}

// granules returns all granules, found by looking at one day after the other.
func granules(g api.Granularity, dates []date) []api.Period {
	var all []api.Period
	from := 0
	for day := 1; day < len(dates); day++ {
		if starts(g, dates[day]) {
			all = append(all, api.Period{From: from, To: day})
			from = day
		}
	}
	return append(all, api.Period{From: from, To: len(dates)})
}

func TestValidAcceptsEveryValidGranularity(t *testing.T) {
	for _, g := range allValid() {
		if !granule.Valid(g) {
			t.Errorf("P2.1: Valid(%v) = false, want true", g)
		}
	}
}

func TestInvalidGranularityHasNoGranules(t *testing.T) {
	for _, g := range someInvalid() {
		if granule.Valid(g) {
			t.Errorf("P2.1: Valid(%v) = true, want false", g)
		}
		for _, n := range []int{0, 1, 14, 400, 2737, api.Forever - 1, -1, math.MinInt, math.MaxInt} {
			if i, ok := granule.IndexOf(g, n); i != 0 || ok {
				t.Errorf("P2.1: IndexOf(%v, %d) = %d, %v, want 0, false", g, n, i, ok)
			}
			if p, ok := granule.Span(g, n); p != noPeriod || ok {
				t.Errorf("P2.1: Span(%v, %d) = %v, %v, want a zero period and false", g, n, p, ok)
			}
			if first, last, ok := granule.Covering(g, n, months); first != 0 || last != 0 || ok {
				t.Errorf("P2.1: Covering(%v, %d, months) = %d, %d, %v, want zeros and false", g, n, first, last, ok)
			}
			if first, last, ok := granule.Covering(months, n, g); first != 0 || last != 0 || ok {
				t.Errorf("P2.1: Covering(months, %d, %v) = %d, %d, %v, want zeros and false", n, g, first, last, ok)
			}
		}
		for _, p := range []api.Period{allTime, {From: 0, To: 1}, {From: 500, To: 900}} {
			if parts := granule.Split(g, p); len(parts) != 0 {
				t.Errorf("P2.1: Split(%v, %v) has %d parts, want none", g, p, len(parts))
			}
		}
	}
}

func TestFirstGranules(t *testing.T) {
	tests := []struct {
		g api.Granularity
		// ends are the days after the first granules.
		ends []int
	}{
		{days, []int{1, 2, 3, 4}},
		{weeks, []int{2, 9, 16, 23, 30, 37}},
		{months, []int{31, 60, 91, 121}},
		{month(2), []int{1, 32, 61, 92}},
		{month(15), []int{14, 45, 74, 105}},
		{month(28), []int{27, 58, 87, 118}},
		{quarter(1), []int{91, 182, 274, 366}},
		{quarter(2), []int{31, 121, 213, 305}},
		{quarter(3), []int{60, 152, 244, 335}},
		{quarter(4), []int{91, 182, 274, 366}},
		{quarter(11), []int{31, 121, 213, 305}},
		{quarter(12), []int{60, 152, 244, 335}},
		{years, []int{366, 731, 1096, 1461, 1827}},
		{year(2), []int{31, 397, 762}},
		{year(4), []int{91, 456, 821}},
		{year(12), []int{335, 700, 1065}},
	}
	for _, x := range tests {
		from := 0
		for i, to := range x.ends {
			want := api.Period{From: from, To: to}
			if got, ok := granule.Span(x.g, i); got != want || !ok {
				t.Errorf("P2.3: Span(%v, %d) = %v, %v, want %v, true", x.g, i, got, ok, want)
			}
			for _, day := range []int{from, to - 1} {
				if got, ok := granule.IndexOf(x.g, day); got != i || !ok {
					t.Errorf("P2.2: IndexOf(%v, %d) = %d, %v, want %d, true", x.g, day, got, ok, i)
				}
			}
			from = to
		}
	}
}

func TestWeeksAreBrokenAtTheTurnOfTheYear(t *testing.T) {
	tests := []struct{ i, from, to int }{
		// 1 January 1601 is a Monday: the turn of the year ends a whole week.
		{52, 359, 366}, {53, 366, 373},
		// 1 January 1602 is a Tuesday: 31 December is a week of one day.
		{105, 730, 731}, {106, 731, 737},
		// 1612 is a leap year that begins on a Sunday and has 54 weeks.
		{636, 4383, 4384}, {637, 4384, 4391}, {688, 4741, 4748}, {689, 4748, 4749}, {690, 4749, 4755},
	}
	for _, x := range tests {
		want := api.Period{From: x.from, To: x.to}
		if got, ok := granule.Span(weeks, x.i); got != want || !ok {
			t.Errorf("P2.3: Span(weeks, %d) = %v, %v, want %v, true", x.i, got, ok, want)
		}
		for _, day := range []int{x.from, x.to - 1} {
			if got, ok := granule.IndexOf(weeks, day); got != x.i || !ok {
				t.Errorf("P2.2: IndexOf(weeks, %d) = %d, %v, want %d, true", day, got, ok, x.i)
			}
		}
	}
}

func TestGranulesAgreeWithCalendar(t *testing.T) {
	dates := calendar()
	for _, g := range allValid() {
		want := granules(g, dates)
		for i, p := range want {
			if got, ok := granule.Span(g, i); got != p || !ok {
				t.Fatalf("P2.3: Span(%v, %d) = %v, %v, want %v, true", g, i, got, ok, p)
			}
			for day := p.From; day < p.To; day++ {
				if got, ok := granule.IndexOf(g, day); got != i || !ok {
					t.Fatalf("P2.2: IndexOf(%v, %d) = %d, %v, want %d, true", g, day, got, ok, i)
				}
			}
		}
		if got := granule.Split(g, allTime); !slices.Equal(got, want) {
			t.Errorf("P2.4: Split(%v, %v) does not return all granules", g, allTime)
		}
		for i := len(want); i < len(want)+100; i++ {
			if got, ok := granule.Span(g, i); got != noPeriod || ok {
				t.Errorf("P2.3: Span(%v, %d) = %v, %v, want a zero period and false", g, i, got, ok)
			}
		}
	}
}

func TestIndexOfWhatIsNoDay(t *testing.T) {
	for _, g := range allValid() {
		for _, day := range extremes {
			if got, ok := granule.IndexOf(g, day); got != 0 || ok {
				t.Errorf("P2.2: IndexOf(%v, %d) = %d, %v, want 0, false", g, day, got, ok)
			}
		}
	}
}

func TestSpanOfWhatIsNoGranule(t *testing.T) {
	for _, g := range allValid() {
		for _, i := range extremes {
			if got, ok := granule.Span(g, i); got != noPeriod || ok {
				t.Errorf("P2.3: Span(%v, %d) = %v, %v, want a zero period and false", g, i, got, ok)
			}
		}
	}
}

// Numbers that are much too large are not cut down to that of a granule.
func TestSpanDoesNotWrapAround(t *testing.T) {
	for _, g := range allValid() {
		for _, unit := range []int{1, 3, 7, 12, 53} {
			for offset := -3; offset <= 3; offset++ {
				for _, i := range []int{math.MaxInt/unit + min(offset, 0), 1<<62/unit + offset, 1<<32/unit + offset} {
					if got, ok := granule.Span(g, i); got != noPeriod || ok {
						t.Errorf("P2.3: Span(%v, %d) = %v, %v, want a zero period and false", g, i, got, ok)
					}
				}
			}
		}
	}
}

func TestSplit(t *testing.T) {
	type periods = []api.Period
	tests := []struct {
		g    api.Granularity
		p    api.Period
		want periods
	}{
		{days, api.Period{From: 7, To: 10}, periods{{From: 7, To: 8}, {From: 8, To: 9}, {From: 9, To: 10}}},
		{weeks, api.Period{From: 1, To: 12}, periods{{From: 1, To: 2}, {From: 2, To: 9}, {From: 9, To: 12}}},
		{weeks, api.Period{From: 728, To: 740}, periods{{From: 728, To: 730}, {From: 730, To: 731}, {From: 731, To: 737}, {From: 737, To: 740}}},
		{months, api.Period{From: 10, To: 70}, periods{{From: 10, To: 31}, {From: 31, To: 60}, {From: 60, To: 70}}},
		{month(15), api.Period{From: 0, To: 15}, periods{{From: 0, To: 14}, {From: 14, To: 15}}},
		{quarter(2), api.Period{From: 30, To: 122}, periods{{From: 30, To: 31}, {From: 31, To: 121}, {From: 121, To: 122}}},
		{year(4), api.Period{From: 90, To: 91}, periods{{From: 90, To: 91}}},
		// The period begins and ends at boundaries of granules.
		{months, api.Period{From: 31, To: 91}, periods{{From: 31, To: 60}, {From: 60, To: 91}}},
		{months, api.Period{From: 31, To: 60}, periods{{From: 31, To: 60}}},
		// The period lies inside a granule.
		{years, api.Period{From: 400, To: 500}, periods{{From: 400, To: 500}}},
		{weeks, api.Period{From: 0, To: 1}, periods{{From: 0, To: 1}}},
		// The period ends at Forever.
		{years, api.Period{From: 999000, To: api.Forever}, periods{{From: 999000, To: 999303}, {From: 999303, To: 999669}, {From: 999669, To: api.Forever}}},
		{weeks, api.Period{From: api.Forever - 1, To: api.Forever}, periods{{From: api.Forever - 1, To: api.Forever}}},
	}
	for _, x := range tests {
		if got := granule.Split(x.g, x.p); !slices.Equal(got, x.want) {
			t.Errorf("P2.4: Split(%v, %v) = %v, want %v", x.g, x.p, got, x.want)
		}
	}
}

// Two days belong to the same part if no granule starts between them.
func TestSplitAgreesWithCalendar(t *testing.T) {
	dates := calendar()[:1200]
	for _, g := range allValid() {
		all := granules(g, dates)
		for from := 0; from < len(dates); from += 13 {
			for to := from + 1; to < len(dates); to += 31 {
				var want []api.Period
				for _, p := range all {
					part := api.Period{From: max(p.From, from), To: min(p.To, to)}
					if part.From < part.To {
						want = append(want, part)
					}
				}
				if got := granule.Split(g, api.Period{From: from, To: to}); !slices.Equal(got, want) {
					t.Fatalf("P2.4: Split(%v, [%d, %d)) = %v, want %v", g, from, to, got, want)
				}
			}
		}
	}
}

func TestSplitOfWhatIsNoPeriod(t *testing.T) {
	periods := []api.Period{
		{}, {From: 5, To: 5}, {From: 6, To: 5}, {From: -1, To: 5}, {From: -1, To: 0}, {From: -5, To: -1},
		{From: 5, To: api.Forever + 1}, {From: 0, To: api.Forever + 1}, {From: -1, To: api.Forever},
		{From: api.Forever, To: api.Forever}, {From: api.Forever, To: api.Forever + 1},
		{From: math.MinInt, To: math.MaxInt}, {From: math.MaxInt, To: math.MinInt},
		{From: math.MinInt, To: math.MinInt}, {From: 0, To: math.MinInt}, {From: 0, To: math.MaxInt},
		{From: math.MinInt, To: 7},
	}
	for _, g := range allValid() {
		for _, p := range periods {
			if got := granule.Split(g, p); len(got) != 0 {
				t.Errorf("P2.4: Split(%v, %v) = %v, want nothing", g, p, got)
			}
		}
	}
}

func TestCovering(t *testing.T) {
	tests := []struct {
		g           api.Granularity
		i           int
		h           api.Granularity
		first, last int
	}{
		{months, 0, days, 0, 30},
		{months, 1, days, 31, 59},
		{months, 1, weeks, 5, 9},
		{weeks, 0, months, 0, 0},
		{weeks, 5, months, 0, 1},
		{weeks, 1, years, 0, 0},
		{weeks, 52, years, 0, 0},
		{weeks, 53, years, 1, 1},
		{years, 1, months, 12, 23},
		{years, 1, month(15), 12, 24},
		{year(4), 0, quarter(1), 0, 0},
		{year(4), 1, years, 0, 1},
		{quarter(2), 1, months, 1, 3},
		{quarter(2), 1, quarter(2), 1, 1},
		{years, 2737, days, 999669, api.Forever - 1},
		{days, api.Forever - 1, years, 2737, 2737},
	}
	for _, x := range tests {
		if first, last, ok := granule.Covering(x.g, x.i, x.h); first != x.first || last != x.last || !ok {
			t.Errorf("P2.5: Covering(%v, %d, %v) = %d, %d, %v, want %d, %d, true", x.g, x.i, x.h, first, last, ok, x.first, x.last)
		}
	}
}

// overlapping returns the numbers of the first and the last of the periods that
// have a day in common with p.
func overlapping(all []api.Period, p api.Period) (first, last int) {
	overlaps := func(q api.Period) bool { return q.From < p.To && p.From < q.To }
	first = slices.IndexFunc(all, overlaps)
	for last = first; last+1 < len(all) && overlaps(all[last+1]); last++ {
	}
	return first, last
}

func TestCoveringAgreesWithCalendar(t *testing.T) {
	dates := calendar()
	some := []api.Granularity{weeks, months, month(2), month(28), quarter(1), quarter(3), years, year(6), year(12)}
	all := make([][]api.Period, len(some))
	for k, g := range some {
		all[k] = granules(g, dates)
	}
	for j, g := range some {
		for k, h := range some {
			n := len(all[j])
			for _, i := range []int{0, 1, 2, 3, 11, 53, 105, n / 3, n / 2, n - 3, n - 2, n - 1} {
				wantFirst, wantLast := overlapping(all[k], all[j][i])
				if first, last, ok := granule.Covering(g, i, h); first != wantFirst || last != wantLast || !ok {
					t.Errorf("P2.5: Covering(%v, %d, %v) = %d, %d, %v, want %d, %d, true", g, i, h, first, last, ok, wantFirst, wantLast)
				}
			}
		}
	}
}

func TestCoveringOfWhatIsNoGranule(t *testing.T) {
	for _, g := range allValid() {
		last, _ := granule.IndexOf(g, api.Forever-1)
		for _, i := range append([]int{last + 1, last + 2}, extremes...) {
			if first, last, ok := granule.Covering(g, i, months); first != 0 || last != 0 || ok {
				t.Errorf("P2.5: Covering(%v, %d, months) = %d, %d, %v, want zeros and false", g, i, first, last, ok)
			}
		}
	}
}

// The granules follow one another without gaps from day 0 to Forever, and each
// of them contains exactly the days that have its number.
func TestEveryDayLiesInExactlyOneGranule(t *testing.T) {
	for _, g := range allValid() {
		day, index := 0, 0
		for ; day < api.Forever; index++ {
			p, ok := granule.Span(g, index)
			if !ok || p.From != day || p.To <= day || p.To > api.Forever {
				t.Fatalf("P2.6: Span(%v, %d) = %v, %v, want a period from %d on", g, index, p, ok, day)
			}
			for ; day < p.To; day++ {
				if got, ok := granule.IndexOf(g, day); got != index || !ok {
					t.Fatalf("P2.6: IndexOf(%v, %d) = %d, %v, want %d, true", g, day, got, ok, index)
				}
			}
		}
		if p, ok := granule.Span(g, index); ok {
			t.Errorf("P2.6: Span(%v, %d) = %v, want no granule after the last day", g, index, p)
		}
	}
}
