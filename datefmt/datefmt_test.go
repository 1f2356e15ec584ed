package datefmt_test

import (
	"fmt"
	"math"
	"regexp"
	"strings"
	"testing"
	"time"

	"annalist/api"
	"annalist/datefmt"
)

var (
	noPeriod = api.Period{}
	// dayForm and periodForm are the forms of the document, written down in
	// another way than in the program.
	dayForm    = regexp.MustCompile(`\A(?:forever|([0-9]{4})-([0-9]{2})-([0-9]{2}))\z`)
	periodForm = regexp.MustCompile(`(?s)\A\[([^,]*), ([^)]*)\)\z`)
)

// notDays are integers that are neither a day nor Forever. Some of them wrap
// around to a day when they are truncated.
var notDays = []int{
	-1, -2, -366, -api.Forever, api.Forever + 1, api.Forever + 2, 1 << 31, -1 << 31, 1 << 32,
	1<<32 + 5, 1<<32 + api.Forever, 1 << 62, math.MinInt, math.MinInt + 5, math.MaxInt,
}

// dayTexts maps the text of each day, which the standard library writes, to the
// day.
func dayTexts() map[string]int {
	texts := make(map[string]int, api.Forever+1)
	now := time.Date(1600, time.January, 1, 0, 0, 0, 0, time.UTC)
	for day := range api.Forever {
		texts[now.Format("2006-01-02")] = day
		now = now.AddDate(0, 0, 1)
	}
	texts["forever"] = api.Forever
	return texts
}

// wantDay is what ParseDay must return, given the texts of all days.
func wantDay(texts map[string]int, s string) (int, api.Errno) {
	if !dayForm.MatchString(s) {
		return 0, api.ErrSyntax
	}
	day, ok := texts[s]
	if !ok {
		return 0, api.ErrRange
	}
	return day, api.OK
}

// wantPeriod is what ParsePeriod must return, given the texts of all days.
func wantPeriod(texts map[string]int, s string) (api.Period, api.Errno) {
	parts := periodForm.FindStringSubmatch(s)
	if parts == nil {
		return noPeriod, api.ErrSyntax
	}
	from, err := wantDay(texts, parts[1])
	if err != api.OK {
		return noPeriod, err
	}
	to, err := wantDay(texts, parts[2])
	if err != api.OK {
		return noPeriod, err
	}
	if from >= to {
		return noPeriod, api.ErrRange
	}
	return api.Period{From: from, To: to}, api.OK
}

// changed returns every string that differs from s in one byte: another byte in
// its place, a byte more or a byte less.
func changed(s string) []string {
	var all []string
	for i := range len(s) + 1 {
		for b := range 256 {
			all = append(all, s[:i]+string([]byte{byte(b)})+s[i:])
			if i < len(s) {
				all = append(all, s[:i]+string([]byte{byte(b)})+s[i+1:])
			}
		}
		if i < len(s) {
			all = append(all, s[:i]+s[i+1:])
		}
	}
	return all
}

func TestFormatDayOfKnownDays(t *testing.T) {
	tests := []struct {
		day  int
		want string
	}{
		{0, "1600-01-01"}, {8, "1600-01-09"}, {9, "1600-01-10"}, {30, "1600-01-31"}, {31, "1600-02-01"},
		{59, "1600-02-29"}, {365, "1600-12-31"}, {366, "1601-01-01"}, {146097, "2000-01-01"},
		{api.Forever - 1, "4337-11-27"}, {api.Forever, "forever"},
	}
	for _, x := range tests {
		if got := datefmt.FormatDay(x.day); got != x.want {
			t.Errorf("P3.1: FormatDay(%d) = %q, want %q", x.day, got, x.want)
		}
	}
}

func TestFormatDayAgreesWithCalendar(t *testing.T) {
	for want, day := range dayTexts() {
		if got := datefmt.FormatDay(day); got != want {
			t.Fatalf("P3.1: FormatDay(%d) = %q, want %q", day, got, want)
		}
	}
}

func TestFormatDayOfWhatIsNoDay(t *testing.T) {
	for _, day := range notDays {
		if got := datefmt.FormatDay(day); got != "" {
			t.Errorf("P3.1: FormatDay(%d) = %q, want an empty string", day, got)
		}
	}
}

func TestParseDayOfKnownTexts(t *testing.T) {
	tests := []struct {
		s    string
		want int
	}{
		{"1600-01-01", 0}, {"1600-01-31", 30}, {"1600-02-29", 59}, {"1601-01-01", 366},
		{"1999-12-31", 146096}, {"2000-01-01", 146097}, {"4337-11-27", api.Forever - 1}, {"forever", api.Forever},
	}
	for _, x := range tests {
		if got, err := datefmt.ParseDay(x.s); got != x.want || err != api.OK {
			t.Errorf("P3.2: ParseDay(%q) = %d, %d, want %d, OK", x.s, got, err, x.want)
		}
	}
}

func TestParseDayRejectsWhatHasNotTheForm(t *testing.T) {
	texts := []string{
		"", " ", "0", "-", "--", "1600", "1600-01", "1600-01-", "1600-01-0", "1600-01-1", "1600-1-01", "1600-1-001",
		"160-01-001", "600-01-01", "16000-01-01", "01600-01-01", "1600-01-011", "1600-001-01",
		"1600-01-01 ", " 1600-01-01", "1600-01-01\n", "1600-01-01\x00", "\x001600-01-01", "1600-01-01,", "1600-01-01)",
		"1600/01/01", "1600.01.01", "1600 01 01", "1600_01_01", "16000101", "1600-01/01", "1600/01-01", "1600-0101-",
		"1600\u201001\u201001", "1600\u221201\u221201",
		"+600-01-01", "-600-01-01", "1600-+1-01", "1600--1-01", "1600-01-+1", "1600-01--1", "1600- 1-01", "1600-01- 1",
		"1_00-01-01", "0x10-01-01", "1e03-01-01", "160a-01-01", "1600-0b-01", "1600-01-0x",
		"1600-01-:1", "1600-01-/1", ":600-01-01", "/600-01-01", "1600-01-1:", "1600-01-1/",
		"abcd-ef-gh", "----------", "0000000000", "          ", "YYYY-MM-DD", "01-01-1600", "1600-01-0\u0661", "\uff11600-01-01",
		"\xff\xff\xff\xff-\xff\xff-\xff\xff", "1600-01-0\xb1",
		"Forever", "FOREVER", "forever ", " forever", "foreve", "forever\n", "foreverr", "fforever", "fore ver", "forever-01", "never",
		// The date has not the form, although another part of it is no date.
		"0000-00-0x", "x000-00-00", "1600-13-1", "1600-99-9 ", "9999-99-99 ", "99999-99-99",
		strings.Repeat("1", 1000), strings.Repeat("1600-01-01", 2), strings.Repeat("forever", 2),
	}
	for _, s := range texts {
		if got, err := datefmt.ParseDay(s); got != 0 || err != api.ErrSyntax {
			t.Errorf("P3.2: ParseDay(%q) = %d, %d, want 0, ErrSyntax", s, got, err)
		}
	}
}

func TestParseDayRejectsWhatIsNoDay(t *testing.T) {
	texts := []string{
		"1601-02-29", "1700-02-29", "1900-02-29", "2000-02-30", "2000-04-31", "2000-01-32", "2000-12-32",
		"2000-00-01", "2000-00-10", "2000-13-01", "2000-20-01", "2000-01-00", "2000-12-00", "2000-00-00", "2000-99-99",
		"1599-12-31", "1599-01-01", "0000-00-00", "0000-01-01", "0001-01-01", "0160-01-01", "1000-10-10",
		"4337-11-28", "4337-11-30", "4337-12-01", "4338-01-01", "9999-12-31", "9999-99-99",
	}
	for _, s := range texts {
		if got, err := datefmt.ParseDay(s); got != 0 || err != api.ErrRange {
			t.Errorf("P3.2: ParseDay(%q) = %d, %d, want 0, ErrRange", s, got, err)
		}
	}
}

func TestParseDayAgreesWithCalendar(t *testing.T) {
	texts := dayTexts()
	check := func(s string) {
		want, wantErr := wantDay(texts, s)
		if got, err := datefmt.ParseDay(s); got != want || err != wantErr {
			t.Fatalf("P3.2: ParseDay(%q) = %d, %d, want %d, %d", s, got, err, want, wantErr)
		}
	}
	for s := range texts {
		check(s)
	}
	// The dates around the ends of the calendar, with all numbers of two digits.
	for _, year := range []int{0, 1, 1599, 1600, 1601, 1700, 2000, 2023, 2024, 4336, 4337, 4338, 9999} {
		for month := range 100 {
			for day := range 100 {
				check(fmt.Sprintf("%04d-%02d-%02d", year, month, day))
			}
		}
	}
	for year := range 10000 {
		check(fmt.Sprintf("%04d-02-29", year))
	}
	for _, s := range []string{"1600-01-01", "2000-02-29", "1899-12-31", "4337-11-27", "1601-02-29", "forever"} {
		for _, c := range changed(s) {
			check(c)
		}
	}
}

func TestFormatPeriodOfKnownPeriods(t *testing.T) {
	tests := []struct {
		p    api.Period
		want string
	}{
		{api.Period{From: 0, To: 1}, "[1600-01-01, 1600-01-02)"},
		{api.Period{From: 0, To: api.Forever}, "[1600-01-01, forever)"},
		{api.Period{From: 59, To: 60}, "[1600-02-29, 1600-03-01)"},
		{api.Period{From: 146097, To: 146463}, "[2000-01-01, 2001-01-01)"},
		{api.Period{From: 0, To: api.Forever - 1}, "[1600-01-01, 4337-11-27)"},
		{api.Period{From: api.Forever - 1, To: api.Forever}, "[4337-11-27, forever)"},
	}
	for _, x := range tests {
		if got := datefmt.FormatPeriod(x.p); got != x.want {
			t.Errorf("P3.3: FormatPeriod(%v) = %q, want %q", x.p, got, x.want)
		}
	}
}

func TestFormatPeriodOfWhatIsNoPeriod(t *testing.T) {
	periods := []api.Period{
		{}, {From: 5, To: 5}, {From: 6, To: 5}, {From: 5, To: 0}, {From: 1, To: 0},
		{From: api.Forever, To: api.Forever}, {From: api.Forever, To: 5}, {From: api.Forever, To: api.Forever + 1},
		{From: api.Forever, To: api.Forever - 1}, {From: api.Forever - 1, To: api.Forever + 1},
	}
	for _, n := range notDays {
		periods = append(periods, api.Period{From: n, To: 5}, api.Period{From: n, To: api.Forever},
			api.Period{From: 0, To: n}, api.Period{From: 5, To: n}, api.Period{From: n, To: n},
			api.Period{From: math.MinInt, To: n}, api.Period{From: n, To: math.MaxInt})
	}
	for _, p := range periods {
		if got := datefmt.FormatPeriod(p); got != "" {
			t.Errorf("P3.3: FormatPeriod(%v) = %q, want an empty string", p, got)
		}
	}
}

func TestParsePeriodOfKnownTexts(t *testing.T) {
	tests := []struct {
		s    string
		want api.Period
	}{
		{"[1600-01-01, forever)", api.Period{From: 0, To: api.Forever}},
		{"[1600-01-01, 1600-01-02)", api.Period{From: 0, To: 1}},
		{"[1600-02-29, 1600-03-01)", api.Period{From: 59, To: 60}},
		{"[2000-01-01, 2001-01-01)", api.Period{From: 146097, To: 146463}},
		{"[4337-11-27, forever)", api.Period{From: api.Forever - 1, To: api.Forever}},
	}
	for _, x := range tests {
		if got, err := datefmt.ParsePeriod(x.s); got != x.want || err != api.OK {
			t.Errorf("P3.4: ParsePeriod(%q) = %v, %d, want %v, OK", x.s, got, err, x.want)
		}
	}
}

func TestParsePeriodReturnsTheFirstError(t *testing.T) {
	tests := []struct {
		s    string
		want api.Errno
	}{
		// The text has not the form of a period.
		{"", api.ErrSyntax}, {"[", api.ErrSyntax}, {"[)", api.ErrSyntax}, {",", api.ErrSyntax}, {", ", api.ErrSyntax},
		{"[,", api.ErrSyntax}, {"[, ", api.ErrSyntax}, {"[,)", api.ErrSyntax}, {")", api.ErrSyntax}, {", )", api.ErrSyntax},
		{"1600-01-01", api.ErrSyntax}, {"forever", api.ErrSyntax},
		{"1600-01-01, forever", api.ErrSyntax}, {"[1600-01-01", api.ErrSyntax}, {"[1600-01-01)", api.ErrSyntax},
		{"[1600-01-01,", api.ErrSyntax}, {"[1600-01-01, ", api.ErrSyntax}, {"[1600-01-01, forever", api.ErrSyntax},
		{"1600-01-01, forever)", api.ErrSyntax}, {"(1600-01-01, forever)", api.ErrSyntax}, {"[1600-01-01, forever]", api.ErrSyntax},
		{"[1600-01-01,forever)", api.ErrSyntax}, {"[1600-01-01 forever)", api.ErrSyntax}, {"[1600-01-01,\tforever)", api.ErrSyntax},
		{"[1600-01-01, forever) ", api.ErrSyntax}, {" [1600-01-01, forever)", api.ErrSyntax}, {"[1600-01-01, forever)\n", api.ErrSyntax},
		{"[1600-01-01, forever)[1600-01-01, forever)", api.ErrSyntax},
		// It has not the form, although the first string is no day for another reason.
		{"[1601-02-29, forever", api.ErrSyntax}, {"[1601-02-29,forever)", api.ErrSyntax}, {"[1601-02-29, forever))", api.ErrSyntax},
		{"[1601-02-29, )forever)", api.ErrSyntax}, {"[1601-02-29, for)ever)", api.ErrSyntax}, {"[1601-02-29 ,forever)", api.ErrSyntax},
		{"[1601-02-29,, forever)", api.ErrSyntax}, {"[1601-02-29,x, forever)", api.ErrSyntax}, {"(1601-02-29, forever)", api.ErrSyntax},
		{"[1601-02-29)", api.ErrSyntax}, {"[1601-02-29, ", api.ErrSyntax}, {"[1601-02-29,)", api.ErrSyntax},
		// The first string is no day, whatever the second one is.
		{"[x, forever)", api.ErrSyntax}, {"[, forever)", api.ErrSyntax}, {"[, )", api.ErrSyntax}, {"[x, 1601-02-29)", api.ErrSyntax},
		{"[[1600-01-01, forever)", api.ErrSyntax}, {"[1600-01-01), forever)", api.ErrSyntax}, {"[ 1600-01-01, forever)", api.ErrSyntax},
		{"[1600-01-01 , forever)", api.ErrSyntax}, {"[x, 1600-01-01)", api.ErrSyntax}, {"[Forever, forever)", api.ErrSyntax},
		{"[1601-02-29, forever)", api.ErrRange}, {"[1601-02-29, x)", api.ErrRange}, {"[1601-02-29, )", api.ErrRange},
		{"[1601-02-29, 1601-02-29)", api.ErrRange}, {"[1599-12-31, 1600-01-01)", api.ErrRange}, {"[4337-11-28, forever)", api.ErrRange},
		// The second string may contain a comma, so this has the form of a period.
		{"[1601-02-29, x, y)", api.ErrRange}, {"[1601-02-29, , )", api.ErrRange}, {"[1601-02-29, ,)", api.ErrRange},
		{"[1601-02-29,  forever)", api.ErrRange}, {"[1601-02-29, [forever)", api.ErrRange}, {"[1601-02-29, (forever)", api.ErrRange},
		// The second string is no day.
		{"[1600-01-01, )", api.ErrSyntax}, {"[1600-01-01, x)", api.ErrSyntax}, {"[1600-01-01,  forever)", api.ErrSyntax},
		{"[1600-01-01, forever )", api.ErrSyntax}, {"[1600-01-01, 1600-01-02,)", api.ErrSyntax}, {"[forever, x)", api.ErrSyntax},
		{"[1600-01-01, FOREVER)", api.ErrSyntax}, {"[1600-01-01, 1600-01-02, 1600-01-03)", api.ErrSyntax},
		{"[1600-01-01, 1601-02-29)", api.ErrRange}, {"[1600-01-01, 4337-11-28)", api.ErrRange}, {"[1600-01-01, 0000-00-00)", api.ErrRange},
		// The first day is not less than the second.
		{"[1600-01-01, 1600-01-01)", api.ErrRange}, {"[1600-01-02, 1600-01-01)", api.ErrRange}, {"[4337-11-27, 1600-01-01)", api.ErrRange},
		{"[forever, forever)", api.ErrRange}, {"[forever, 1600-01-01)", api.ErrRange}, {"[forever, 4337-11-27)", api.ErrRange},
	}
	for _, x := range tests {
		if got, err := datefmt.ParsePeriod(x.s); got != noPeriod || err != x.want {
			t.Errorf("P3.4: ParsePeriod(%q) = %v, %d, want a zero period and %d", x.s, got, err, x.want)
		}
	}
}

func TestParsePeriodAgreesWithTheForm(t *testing.T) {
	texts := dayTexts()
	check := func(s string) {
		want, wantErr := wantPeriod(texts, s)
		if got, err := datefmt.ParsePeriod(s); got != want || err != wantErr {
			t.Fatalf("P3.4: ParsePeriod(%q) = %v, %d, want %v, %d", s, got, err, want, wantErr)
		}
	}
	for _, s := range []string{
		"[1600-01-01, forever)", "[2000-02-29, 2000-03-01)", "[1601-02-29, 1600-01-01)", "[forever, 1600-01-01)", "[, )",
	} {
		check(s)
		for _, c := range changed(s) {
			check(c)
		}
	}
	// All short sequences of what a period consists of.
	pieces := []string{"[", ",", " ", ")", "1600-01-01", "1601-02-29", "forever"}
	sequences := []string{""}
	for range 5 {
		var longer []string
		for _, s := range sequences {
			for _, piece := range pieces {
				longer = append(longer, s+piece)
			}
		}
		sequences = longer
		for _, s := range sequences {
			check(s)
			check("[" + s)
			check("[" + s + ")")
			check("[1600-01-01" + s)
			check("[1601-02-29" + s)
		}
	}
}

func TestParseDayInvertsFormatDay(t *testing.T) {
	for day := range api.Forever + 1 {
		s := datefmt.FormatDay(day)
		if got, err := datefmt.ParseDay(s); got != day || err != api.OK {
			t.Fatalf("P3.5: ParseDay(FormatDay(%d)) = %d, %d", day, got, err)
		}
	}
}

func TestParsePeriodInvertsFormatPeriod(t *testing.T) {
	check := func(p api.Period) {
		if got, err := datefmt.ParsePeriod(datefmt.FormatPeriod(p)); got != p || err != api.OK {
			t.Fatalf("P3.5: ParsePeriod(FormatPeriod(%v)) = %v, %d", p, got, err)
		}
	}
	for day := range api.Forever {
		check(api.Period{From: day, To: day + 1})
	}
	for from := 0; from < api.Forever; from += 3331 {
		check(api.Period{From: from, To: api.Forever})
		for to := from + 1; to <= api.Forever; to += 4447 {
			check(api.Period{From: from, To: to})
		}
	}
}
