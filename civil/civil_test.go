package civil_test

import (
	"math"
	"math/bits"
	"testing"
	"time"

	"annalist/api"
	"annalist/civil"
)

// notDays are integers that are not the number of any day.
var notDays = []int{-1, -366, api.Forever, api.Forever + 1, math.MinInt, math.MaxInt}

// calendar returns the date of a day according to the standard library, which
// serves as an independent reference.
func calendar(day int) time.Time {
	return time.Date(1600, time.January, 1+day, 0, 0, 0, 0, time.UTC)
}

// mustFromDate returns the number of a date that is known to be a day.
func mustFromDate(t *testing.T, year, month, day int) int {
	t.Helper()
	number, ok := civil.FromDate(year, month, day)
	if !ok {
		t.Fatalf("FromDate(%d, %d, %d) is not a day", year, month, day)
	}
	return number
}

func TestIsLeapFollowsTheRule(t *testing.T) {
	tests := []struct {
		year int
		want bool
	}{
		{1600, true}, {1601, false}, {1604, true}, {1700, false}, {1800, false},
		{1900, false}, {2000, true}, {2023, false}, {2024, true}, {2100, false},
		{0, true}, {-1, false}, {-2, false}, {-4, true}, {-100, false},
		{-200, false}, {-400, true}, {-500, false},
		{math.MaxInt64, false}, {math.MaxInt64 - 3, true}, {math.MinInt64, true},
		{math.MinInt64 + 8, false}, {math.MinInt64 + 1, false},
	}
	for _, x := range tests {
		if got := civil.IsLeap(x.year); got != x.want {
			t.Errorf("P1.1: IsLeap(%d) = %v, want %v", x.year, got, x.want)
		}
	}
}

func TestIsLeapAgreesWithCalendar(t *testing.T) {
	for year := -5000; year <= 5000; year++ {
		want := time.Date(year, time.December, 31, 0, 0, 0, 0, time.UTC).YearDay() == 366
		if got := civil.IsLeap(year); got != want {
			t.Errorf("P1.1: IsLeap(%d) = %v, want %v", year, got, want)
		}
	}
}

func TestDaysInMonthAgreesWithCalendar(t *testing.T) {
	for year := -1000; year <= 5000; year++ {
		for month := 1; month <= 12; month++ {
			want := time.Date(year, time.Month(month+1), 0, 0, 0, 0, 0, time.UTC).Day()
			if got := civil.DaysInMonth(year, month); got != want {
				t.Errorf("P1.2: DaysInMonth(%d, %d) = %d, want %d", year, month, got, want)
			}
		}
	}
}

func TestDaysInMonthOfExtremeYears(t *testing.T) {
	tests := []struct{ year, month, want int }{
		{math.MaxInt64, 2, 28}, {math.MinInt64, 2, 29},
		{math.MaxInt64, 12, 31}, {math.MinInt64, 6, 30},
	}
	for _, x := range tests {
		if got := civil.DaysInMonth(x.year, x.month); got != x.want {
			t.Errorf("P1.2: DaysInMonth(%d, %d) = %d, want %d", x.year, x.month, got, x.want)
		}
	}
}

func TestDaysInMonthWithoutSuchMonth(t *testing.T) {
	for _, month := range []int{0, -1, -2, -12, 13, 14, 24, math.MinInt, math.MaxInt} {
		for _, year := range []int{1600, 1999, -4, math.MinInt, math.MaxInt} {
			if got := civil.DaysInMonth(year, month); got != 0 {
				t.Errorf("P1.2: DaysInMonth(%d, %d) = %d, want 0", year, month, got)
			}
		}
	}
}

func TestFromDateOfKnownDates(t *testing.T) {
	tests := []struct{ year, month, day, want int }{
		{1600, 1, 1, 0},
		{1600, 1, 31, 30},
		{1600, 2, 1, 31},
		{1600, 2, 29, 59},
		{1600, 3, 1, 60},
		{1600, 12, 31, 365},
		{1601, 1, 1, 366},
		{1699, 12, 31, 36524},
		{1700, 1, 1, 36525},
		{1999, 12, 31, 146096},
		{2000, 1, 1, 146097},
		{2000, 2, 29, 146156},
		{4337, 11, 26, 999998},
		{4337, 11, 27, 999999},
	}
	for _, x := range tests {
		if got, ok := civil.FromDate(x.year, x.month, x.day); got != x.want || !ok {
			t.Errorf("P1.3: FromDate(%d, %d, %d) = %d, %v, want %d, true", x.year, x.month, x.day, got, ok, x.want)
		}
	}
}

func TestFromDateRejectsWhatIsNoDay(t *testing.T) {
	tests := []struct{ year, month, day int }{
		// The date does not exist.
		{2000, 0, 1}, {2000, -1, 1}, {2000, 13, 1}, {2000, math.MinInt, 1}, {2000, math.MaxInt, 1},
		{2000, 1, 0}, {2000, 1, -1}, {2000, 1, 32}, {2000, 4, 31}, {2000, 2, 30},
		{2001, 2, 29}, {1900, 2, 29}, {2000, 1, math.MinInt}, {2000, 1, math.MaxInt},
		{2000, 0, 0}, {1600, 1, 0}, {1600, 0, 31},
		// The year is before the first one.
		{1599, 12, 31}, {1599, 13, 1}, {1200, 1, 1}, {0, 1, 1}, {-1600, 1, 1}, {math.MinInt, 1, 1}, {math.MinInt, 12, 31},
		// The day number is not less than Forever.
		{4337, 11, 28}, {4337, 12, 1}, {4337, 12, 31}, {4338, 1, 1}, {4339, 6, 30}, {4340, 2, 29},
		{10000, 1, 1}, {1 << 31, 1, 1}, {1 << 32, 1, 1}, {1<<32 + 1600, 1, 1},
		{math.MaxInt / 365, 1, 1}, {math.MaxInt / 100, 1, 1}, {math.MaxInt, 1, 1}, {math.MaxInt, 12, 31},
	}
	for _, x := range tests {
		if got, ok := civil.FromDate(x.year, x.month, x.day); got != 0 || ok {
			t.Errorf("P1.3: FromDate(%d, %d, %d) = %d, %v, want 0, false", x.year, x.month, x.day, got, ok)
		}
	}
}

// The day number of a distant year may wrap around in 64 bits to a small number
// that looks like a day. These are the years, in both directions, where a
// multiple of 2^64 days has gone by.
func TestFromDateDoesNotWrapAround(t *testing.T) {
	for turns := uint64(1); turns <= 182; turns++ {
		// 400 years have 146097 days, so this is turns * 2^64 days in years.
		distance, _ := bits.Div64(turns*400, 0, 146097)
		for _, offset := range []int{-1000, -1, 0, 1, 1000, 2000} {
			for _, year := range []int{1600 + int(distance) + offset, 1600 - int(distance) + offset} {
				if got, ok := civil.FromDate(year, 3, 1); got != 0 || ok {
					t.Errorf("P1.3: FromDate(%d, 3, 1) = %d, %v, want 0, false", year, got, ok)
				}
			}
		}
	}
}

func TestToDateAgreesWithCalendar(t *testing.T) {
	for day := range api.Forever {
		wantYear, wantMonth, wantDay := calendar(day).Date()
		year, month, dayOfMonth, ok := civil.ToDate(day)
		if year != wantYear || month != int(wantMonth) || dayOfMonth != wantDay || !ok {
			t.Fatalf("P1.4: ToDate(%d) = %d, %d, %d, %v, want %d, %d, %d, true",
				day, year, month, dayOfMonth, ok, wantYear, wantMonth, wantDay)
		}
	}
}

func TestToDateRejectsWhatIsNoDay(t *testing.T) {
	for _, day := range notDays {
		year, month, dayOfMonth, ok := civil.ToDate(day)
		if year != 0 || month != 0 || dayOfMonth != 0 || ok {
			t.Errorf("P1.4: ToDate(%d) = %d, %d, %d, %v, want zeros and false", day, year, month, dayOfMonth, ok)
		}
	}
}

func TestWeekdayOfKnownDays(t *testing.T) {
	tests := []struct{ day, want int }{
		{0, 6}, {1, 7}, {2, 1}, {3, 2}, {4, 3}, {5, 4}, {6, 5}, {7, 6}, {146097, 6},
	}
	for _, x := range tests {
		if got := civil.Weekday(x.day); got != x.want {
			t.Errorf("P1.5: Weekday(%d) = %d, want %d", x.day, got, x.want)
		}
	}
}

func TestWeekdayAgreesWithCalendar(t *testing.T) {
	for day := range api.Forever {
		want := int(calendar(day).Weekday())
		if want == 0 {
			want = 7
		}
		if got := civil.Weekday(day); got != want {
			t.Fatalf("P1.5: Weekday(%d) = %d, want %d", day, got, want)
		}
	}
}

func TestWeekdayOfWhatIsNoDay(t *testing.T) {
	for _, day := range notDays {
		if got := civil.Weekday(day); got != 0 {
			t.Errorf("P1.5: Weekday(%d) = %d, want 0", day, got)
		}
	}
}

func TestAddMonthsOfKnownDates(t *testing.T) {
	type date struct{ year, month, day int }
	tests := []struct {
		from   date
		months int
		want   date
	}{
		{date{1600, 1, 31}, 1, date{1600, 2, 29}},
		{date{1601, 1, 31}, 1, date{1601, 2, 28}},
		{date{2000, 1, 15}, 1, date{2000, 2, 15}},
		{date{2000, 1, 31}, 0, date{2000, 1, 31}},
		{date{2000, 1, 31}, 3, date{2000, 4, 30}},
		{date{2000, 3, 31}, -1, date{2000, 2, 29}},
		{date{2001, 3, 29}, -1, date{2001, 2, 28}},
		{date{2000, 2, 29}, 12, date{2001, 2, 28}},
		{date{2000, 2, 29}, 48, date{2004, 2, 29}},
		{date{2000, 2, 29}, -1200, date{1900, 2, 28}},
		{date{2000, 2, 29}, 1, date{2000, 3, 29}},
		{date{1999, 12, 31}, 1, date{2000, 1, 31}},
		{date{2000, 1, 1}, -1, date{1999, 12, 1}},
		{date{2000, 12, 5}, 12, date{2001, 12, 5}},
		{date{2000, 12, 5}, -12, date{1999, 12, 5}},
		{date{2000, 6, 30}, -18, date{1998, 12, 30}},
		{date{1600, 2, 1}, -1, date{1600, 1, 1}},
		{date{1600, 3, 31}, -2, date{1600, 1, 31}},
		{date{4337, 10, 27}, 1, date{4337, 11, 27}},
		{date{1600, 1, 1}, 2737*12 + 10, date{4337, 11, 1}},
		{date{4337, 11, 27}, -(2737*12 + 10), date{1600, 1, 27}},
	}
	for _, x := range tests {
		day := mustFromDate(t, x.from.year, x.from.month, x.from.day)
		want := mustFromDate(t, x.want.year, x.want.month, x.want.day)
		if got, ok := civil.AddMonths(day, x.months); got != want || !ok {
			t.Errorf("P1.6: AddMonths(%v, %d) = %d, %v, want %d, true", x.from, x.months, got, ok, want)
		}
	}
}

// The month is found here by counting single steps, which is slow but leaves
// no room for a mistake in the arithmetic of years and months.
func TestAddMonthsStepByStep(t *testing.T) {
	starts := []struct{ year, month, day int }{
		{1600, 1, 31}, {1600, 12, 1}, {1896, 2, 29}, {2001, 7, 28}, {4337, 11, 27},
	}
	for _, start := range starts {
		from := mustFromDate(t, start.year, start.month, start.day)
		for _, step := range []int{1, -1} {
			year, month := start.year, start.month
			for months := 0; months != step*40000; months += step {
				want, wantOK := civil.FromDate(year, month, min(start.day, civil.DaysInMonth(year, month)))
				if got, ok := civil.AddMonths(from, months); got != want || ok != wantOK {
					t.Fatalf("P1.6: AddMonths(%v, %d) = %d, %v, want %d, %v", start, months, got, ok, want, wantOK)
				}
				month += step
				if month == 13 {
					year, month = year+1, 1
				}
				if month == 0 {
					year, month = year-1, 12
				}
			}
		}
	}
}

func TestAddMonthsLeavesTheCalendar(t *testing.T) {
	last := api.Forever - 1
	tests := []struct{ day, months int }{
		{0, -1}, {30, -1}, {30, -12}, {31, -2}, {365, -12},
		{last, 1}, {last, 12},
		{mustFromDate(t, 4337, 10, 28), 1},
		{mustFromDate(t, 4337, 10, 31), 1},
		{0, 2737*12 + 11}, {last, -(2737*12 + 11)},
		{0, api.Forever}, {0, api.Forever + 1}, {last, api.Forever}, {last, -api.Forever}, {last, -api.Forever - 1},
	}
	for _, x := range tests {
		if got, ok := civil.AddMonths(x.day, x.months); got != 0 || ok {
			t.Errorf("P1.6: AddMonths(%d, %d) = %d, %v, want 0, false", x.day, x.months, got, ok)
		}
	}
}

func TestAddMonthsDoesNotOverflow(t *testing.T) {
	for _, day := range []int{0, 30, 365, 146097, api.Forever - 1} {
		for offset := range 1000 {
			for _, months := range []int{
				math.MaxInt - offset, math.MinInt + offset,
				math.MaxInt/12 + offset, math.MinInt/12 - offset,
				1<<32 + offset, -1<<32 - offset,
			} {
				if got, ok := civil.AddMonths(day, months); got != 0 || ok {
					t.Fatalf("P1.6: AddMonths(%d, %d) = %d, %v, want 0, false", day, months, got, ok)
				}
			}
		}
	}
}

func TestAddMonthsToWhatIsNoDay(t *testing.T) {
	for _, day := range notDays {
		for _, months := range []int{0, 1, -1, 12, -12, 4800, -4800, math.MinInt, math.MaxInt} {
			if got, ok := civil.AddMonths(day, months); got != 0 || ok {
				t.Errorf("P1.6: AddMonths(%d, %d) = %d, %v, want 0, false", day, months, got, ok)
			}
		}
	}
}

func TestFromDateInvertsToDate(t *testing.T) {
	for day := range api.Forever {
		year, month, dayOfMonth, ok := civil.ToDate(day)
		if !ok {
			t.Fatalf("P1.7: ToDate(%d) is not a date", day)
		}
		if got, ok := civil.FromDate(year, month, dayOfMonth); got != day || !ok {
			t.Fatalf("P1.7: FromDate(ToDate(%d)) = %d, %v", day, got, ok)
		}
	}
}

// Every date that FromDate accepts is reached by ToDate, and there are exactly
// as many of them as days.
func TestToDateInvertsFromDate(t *testing.T) {
	accepted := 0
	for year := 1590; year <= 4350; year++ {
		for month := 0; month <= 13; month++ {
			for day := 0; day <= 32; day++ {
				number, ok := civil.FromDate(year, month, day)
				if !ok {
					continue
				}
				accepted++
				y, m, d, ok := civil.ToDate(number)
				if y != year || m != month || d != day || !ok {
					t.Fatalf("P1.7: ToDate(FromDate(%d, %d, %d)) = %d, %d, %d, %v", year, month, day, y, m, d, ok)
				}
			}
		}
	}
	if accepted != api.Forever {
		t.Errorf("P1.7: FromDate accepts %d dates, want %d", accepted, api.Forever)
	}
}
