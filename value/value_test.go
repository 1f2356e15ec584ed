package value_test

import (
	"fmt"
	"math"
	"math/big"
	"regexp"
	"slices"
	"strings"
	"testing"

	"annalist/api"
	"annalist/value"
)

var (
	null = api.Value{Kind: api.Null}
	no   = api.Value{Kind: api.Bool, N: 0}
	yes  = api.Value{Kind: api.Bool, N: 1}
	// numberForm, intForm and textForm are the forms of the document, written
	// down in another way than in the program.
	numberForm = regexp.MustCompile(`\A-?[0-9]+\z`)
	intForm    = regexp.MustCompile(`\A(?:0|-?[1-9][0-9]*)\z`)
	textForm   = regexp.MustCompile(`(?s)\A'((?:[^']|'')*)'\z`)
)

func num(n int64) api.Value { return api.Value{Kind: api.Int, N: n} }

func text(s string) api.Value { return api.Value{Kind: api.Text, S: s} }

func row(vals ...api.Value) []api.Value { return vals }

// kinds are the four kinds and others, some of which wrap around to a kind when
// they are truncated.
func kinds() []int {
	return []int{
		api.Null, api.Int, api.Text, api.Bool, 4, 5, 11, 25, -1, -2, 256, 258, 1 << 16, 1<<32 + api.Int, 1<<32 + api.Text,
		1<<32 + api.Bool, 1 << 62, math.MinInt, math.MaxInt,
	}
}

// numbers are contents of N, some of which wrap around to 0 or 1 when they are
// truncated, or to others when their difference is taken.
func numbers() []int64 {
	return []int64{
		0, 1, 2, -1, -2, 9, 10, 11, 255, 256, 257, 1 << 31, -1 << 31, 1 << 32, 1<<32 + 1, 1<<53 + 1,
		math.MinInt64, math.MinInt64 + 1, math.MaxInt64, math.MaxInt64 - 1,
	}
}

// contents are contents of S. The lengths of some are at the limit, in bytes or
// in characters.
func contents() []string {
	return []string{
		"", "a", "A", "b", "ab", "a\x00", "\x00", "\x00\x00", "'", "''", "it's", "null", "true", "0", "-1", "\n", "\r\n", "\t ", "\\", "\"",
		"\x7f", "\x80", "\xff", "\xff\xfe", "é", "e\u0301", "\uffff", "\U0001f600", "\u00df", "1,0,0:", ":", ",",
		strings.Repeat("a", api.MaxText-1), strings.Repeat("a", api.MaxText), strings.Repeat("a", api.MaxText+1),
		strings.Repeat("'", api.MaxText-1), strings.Repeat("'", api.MaxText), strings.Repeat("'", api.MaxText+1),
		strings.Repeat("\xff", api.MaxText), strings.Repeat("\x00", api.MaxText+1),
		strings.Repeat("é", api.MaxText/2), strings.Repeat("é", api.MaxText/2+1), strings.Repeat("é", api.MaxText),
		strings.Repeat("a", 256), strings.Repeat("a", 1<<16), strings.Repeat("'", 1<<16),
	}
}

// allValues returns all combinations of the kinds, numbers and contents.
func allValues() []api.Value {
	var all []api.Value
	for _, kind := range kinds() {
		for _, n := range numbers() {
			for _, s := range contents() {
				all = append(all, api.Value{Kind: kind, N: n, S: s})
			}
		}
	}
	return all
}

// isValid is the definition of a valid value.
func isValid(v api.Value) bool {
	return v.Kind == api.Null && v.N == 0 && v.S == "" ||
		v.Kind == api.Int && v.S == "" ||
		v.Kind == api.Text && v.N == 0 && len(v.S) <= 200 ||
		v.Kind == api.Bool && v.N == 0 && v.S == "" ||
		v.Kind == api.Bool && v.N == 1 && v.S == ""
}

// ordered are values, valid or not, each of which is less than the next.
func ordered() []api.Value {
	return []api.Value{
		{Kind: math.MinInt, N: 5, S: "z"}, {Kind: -1, N: math.MaxInt64}, {Kind: -1, N: math.MaxInt64, S: "a"},
		{N: math.MinInt64}, {N: -1, S: "z"}, null, {S: "\x00"}, {S: "a"}, {N: 1},
		num(math.MinInt64), num(math.MinInt64 + 1), num(-10), num(-9), num(-1), num(0), {Kind: api.Int, S: "a"}, num(1), num(9), num(10),
		num(1 << 32), num(math.MaxInt64 - 1), num(math.MaxInt64), {Kind: api.Int, N: math.MaxInt64, S: "\x00"},
		{Kind: api.Text, N: -1, S: "z"}, text(""), text("\x00"), text("\x00\x00"), text("\x00a"), text("'"), text("''"), text("-1"), text("0"),
		text("10"), text("9"), text("A"), text("B"), text("Z"), text("a"), text("a\x00"), text("a\x00b"), text("aa"), text("ab"), text("b"),
		text("e\u0301"), text("\u007f"), text("\x80"), text("\u00e9"), text("\uffff"), text("\U0001f600"), text("\xff"), text("\xff\x00"),
		{Kind: api.Text, N: 1}, {Kind: api.Text, N: 1, S: "a"},
		{Kind: api.Bool, N: -1}, no, {Kind: api.Bool, S: "a"}, yes, {Kind: api.Bool, N: 2}, {Kind: 4, N: math.MinInt64}, {Kind: 1 << 32},
		{Kind: math.MaxInt, N: math.MinInt64}, {Kind: math.MaxInt, N: math.MaxInt64, S: strings.Repeat("\xff", 1000)},
	}
}

// sign returns the result of comparing i with j.
func sign(i, j int) int {
	if i < j {
		return -1
	}
	if i > j {
		return 1
	}
	return 0
}

// pseudoRandom returns a function that returns numbers from 0 to n-1 in an order
// that is always the same.
func pseudoRandom() func(n int) int {
	state := uint64(6)
	return func(n int) int {
		state = state*6364136223846793005 + 1442695040888963407
		return int((state >> 33) % uint64(n))
	}
}

// wantParsed is what Parse must return.
func wantParsed(s string) (api.Value, api.Errno) {
	for known, v := range map[string]api.Value{"null": null, "false": no, "true": yes} {
		if s == known {
			return v, api.OK
		}
	}
	if numberForm.MatchString(s) {
		n, ok := new(big.Int).SetString(s, 10)
		if !ok || !n.IsInt64() || !intForm.MatchString(s) {
			return api.Value{}, api.ErrRange
		}
		return num(n.Int64()), api.OK
	}
	parts := textForm.FindStringSubmatch(s)
	if parts == nil {
		return api.Value{}, api.ErrSyntax
	}
	content := strings.ReplaceAll(parts[1], "''", "'")
	if len(content) > api.MaxText {
		return api.Value{}, api.ErrTooLong
	}
	return text(content), api.OK
}

func checkParse(t *testing.T, s string) {
	t.Helper()
	want, wantErr := wantParsed(s)
	if got, err := value.Parse(s); got != want || err != wantErr {
		t.Fatalf("P6.4: Parse(%q) = %#v, %d, want %#v, %d", s, got, err, want, wantErr)
	}
}

// combinations returns all strings of up to the given number of parts.
func combinations(parts []string, most int) []string {
	all := []string{""}
	shorter := all
	for range most {
		var longer []string
		for _, s := range shorter {
			for _, part := range parts {
				longer = append(longer, s+part)
			}
		}
		all = append(all, longer...)
		shorter = longer
	}
	return all
}

// changed returns every string that differs from s in one byte: another byte in
// its place, a byte more or a byte less.
func changed(s string) []string {
	var all []string
	for i := range len(s) + 1 {
		for b := range 256 {
			all = append(all, s[:i]+string([]byte{byte(b)})+s[i:])
			if i < len(s) {
				all = append(all, s[:i]+string([]byte{byte(b)})+s[i+1:])
			}
		}
		if i < len(s) {
			all = append(all, s[:i]+s[i+1:])
		}
	}
	return all
}

func TestValid(t *testing.T) {
	for _, v := range []api.Value{
		{}, null, no, yes, num(0), num(1), num(-1), num(math.MinInt64), num(math.MaxInt64),
		text(""), text("a"), text("\x00\xff"), text("it's"),
		text(strings.Repeat("a", api.MaxText)), text(strings.Repeat("\x80", api.MaxText)), text(strings.Repeat("é", api.MaxText/2)),
	} {
		if !value.Valid(v) {
			t.Errorf("P6.1: Valid(%#v) = false, want true", v)
		}
	}
	for _, v := range []api.Value{
		{N: 1}, {N: -1}, {S: "a"}, {S: "\x00"}, {N: 1 << 32}, {N: math.MinInt64},
		{Kind: api.Int, S: "a"}, {Kind: api.Int, S: "\x00"}, {Kind: api.Int, N: 5, S: "5"},
		{Kind: api.Text, N: 1}, {Kind: api.Text, N: -1, S: "a"}, {Kind: api.Text, N: 1 << 32},
		text(strings.Repeat("a", api.MaxText+1)), text(strings.Repeat("é", api.MaxText/2+1)), text(strings.Repeat("a", 1<<16)),
		{Kind: api.Bool, N: 2}, {Kind: api.Bool, N: -1}, {Kind: api.Bool, N: 1<<32 + 1}, {Kind: api.Bool, S: "a"}, {Kind: api.Bool, N: 1, S: "true"},
		{Kind: -1}, {Kind: 4}, {Kind: 1 << 32}, {Kind: 1<<32 + api.Int}, {Kind: math.MinInt}, {Kind: math.MaxInt},
	} {
		if value.Valid(v) {
			t.Errorf("P6.1: Valid(%#v) = true, want false", v)
		}
	}
}

func TestValidAgreesWithTheDefinition(t *testing.T) {
	for _, v := range allValues() {
		if got, want := value.Valid(v), isValid(v); got != want {
			t.Fatalf("P6.1: Valid(%#v) = %#v, want %#v", v, got, want)
		}
	}
}

func TestCompare(t *testing.T) {
	for i, a := range ordered() {
		for k, b := range ordered() {
			if got, want := value.Compare(a, b), sign(i, k); got != want {
				t.Errorf("P6.2: Compare(%#v, %#v) = %d, want %d", a, b, got, want)
			}
		}
	}
}

// The first of Kind, N and S that differs decides, whatever the others are.
func TestCompareAgreesWithTheDefinition(t *testing.T) {
	all := allValues()
	random := pseudoRandom()
	check := func(a, b api.Value) {
		want := 0
		switch {
		case a.Kind < b.Kind:
			want = -1
		case a.Kind > b.Kind:
			want = 1
		case a.N < b.N:
			want = -1
		case a.N > b.N:
			want = 1
		case a.S < b.S:
			want = -1
		case a.S > b.S:
			want = 1
		}
		if got := value.Compare(a, b); got != want {
			t.Fatalf("P6.2: Compare(%#v, %#v) = %d, want %d", a, b, got, want)
		}
	}
	for range 500_000 {
		a, b := all[random(len(all))], all[random(len(all))]
		check(a, b)
		b.Kind = a.Kind
		check(a, b)
		b.N = a.N
		check(a, b)
		b.S = a.S
		check(a, b)
	}
}

func TestCompareRows(t *testing.T) {
	ascending := [][]api.Value{
		nil,
		row(null), row(null, null), row(null, null, null), row(null, num(1)), row(null, yes),
		row(num(1)), row(num(1), null), row(num(1), num(2)), row(num(1), num(2), num(0)), row(num(1), num(3)), row(num(1), text("")),
		row(num(2)), row(num(10)),
		row(text("")), row(text(""), text("ab")), row(text("a")), row(text("a"), text("b")), row(text("ab")), row(text("ab"), text("")),
		row(text("b")), row(no), row(yes), row(api.Value{Kind: 9}),
	}
	for i, a := range ascending {
		for k, b := range ascending {
			if got, want := value.CompareRows(a, b), sign(i, k); got != want {
				t.Errorf("P6.2: CompareRows(%#v, %#v) = %d, want %d", a, b, got, want)
			}
		}
	}
	if value.CompareRows(nil, []api.Value{}) != 0 || value.CompareRows([]api.Value{}, nil) != 0 {
		t.Error("P6.2: CompareRows of nil and an empty slice is not 0")
	}
}

// The first pair of values that differs decides, wherever it is and whatever
// follows it.
func TestCompareRowsFindsTheFirstDifference(t *testing.T) {
	values := ordered()
	prefix := row(text("a"), num(3), null, yes, num(-3))
	for length := range len(prefix) + 1 {
		for i, a := range values {
			for k, b := range values {
				first := append(slices.Clone(prefix[:length]), a)
				second := append(slices.Clone(prefix[:length]), b)
				for _, x := range []struct{ a, b []api.Value }{
					{first, second},
					{append(slices.Clone(first), num(1)), append(slices.Clone(second), num(1))},
				} {
					if got, want := value.CompareRows(x.a, x.b), sign(i, k); got != want {
						t.Fatalf("P6.2: CompareRows(%#v, %#v) = %d, want %d", x.a, x.b, got, want)
					}
				}
				want := sign(i, k)
				if want == 0 {
					want = 1
				}
				if got := value.CompareRows(append(first, null), second); got != want {
					t.Fatalf("P6.2: CompareRows(%#v, %#v) = %d, want %d", append(first, null), second, got, want)
				}
			}
		}
	}
}

func TestFormat(t *testing.T) {
	tests := []struct {
		v    api.Value
		want string
	}{
		{null, "null"}, {yes, "true"}, {no, "false"},
		{num(0), "0"}, {num(7), "7"}, {num(-1), "-1"}, {num(10), "10"}, {num(-120), "-120"}, {num(1_000_000), "1000000"},
		{num(math.MinInt64), "-9223372036854775808"}, {num(math.MaxInt64), "9223372036854775807"},
		{text(""), "''"}, {text("a"), "'a'"}, {text("it's"), "'it''s'"}, {text("'"), "''''"}, {text("''"), "''''''"},
		{text("'a'"), "'''a'''"}, {text("a''b"), "'a''''b'"}, {text("null"), "'null'"}, {text("true"), "'true'"}, {text("5"), "'5'"},
		{text(" "), "' '"}, {text("\n\x00\xff"), "'\n\x00\xff'"}, {text(`\"`), `'\"'`}, {text("é"), "'é'"},
		{text(strings.Repeat("'", api.MaxText)), "'" + strings.Repeat("''", api.MaxText) + "'"},
		{text(strings.Repeat("a", api.MaxText)), "'" + strings.Repeat("a", api.MaxText) + "'"},
	}
	for _, x := range tests {
		if got := value.Format(x.v); got != x.want {
			t.Errorf("P6.3: Format(%#v) = %q, want %q", x.v, got, x.want)
		}
	}
}

func TestFormatOfInts(t *testing.T) {
	random := pseudoRandom()
	for range 100_000 {
		n := int64(random(1<<31))<<33 ^ int64(random(1<<31))
		n >>= random(64)
		if got, want := value.Format(num(n)), fmt.Sprint(n); got != want {
			t.Fatalf("P6.3: Format(%d) = %q, want %q", n, got, want)
		}
	}
}

func TestFormatOfInvalidValues(t *testing.T) {
	for _, v := range allValues() {
		if got := value.Format(v); (got == "") == isValid(v) {
			t.Fatalf("P6.3: Format(%#v) = %q", v, got)
		}
	}
}

func TestParse(t *testing.T) {
	tests := []struct {
		s    string
		want api.Value
	}{
		{"null", null}, {"true", yes}, {"false", no},
		{"0", num(0)}, {"1", num(1)}, {"-1", num(-1)}, {"10", num(10)}, {"-100", num(-100)}, {"1234567890", num(1234567890)},
		{"9223372036854775807", num(math.MaxInt64)}, {"-9223372036854775808", num(math.MinInt64)}, {"-9223372036854775807", num(-math.MaxInt64)},
		{"''", text("")}, {"'a'", text("a")}, {"'it''s'", text("it's")}, {"''''", text("'")}, {"''''''", text("''")},
		{"'''a'", text("'a")}, {"'a'''", text("a'")}, {"' '", text(" ")}, {"'null'", text("null")}, {"'5'", text("5")},
		{"'\n\x00\xff'", text("\n\x00\xff")}, {`'\'`, text(`\`)}, {"'é'", text("é")},
		{"'" + strings.Repeat("a", api.MaxText) + "'", text(strings.Repeat("a", api.MaxText))},
		{"'" + strings.Repeat("''", api.MaxText) + "'", text(strings.Repeat("'", api.MaxText))},
		{"'" + strings.Repeat("\xff", api.MaxText) + "'", text(strings.Repeat("\xff", api.MaxText))},
	}
	for _, x := range tests {
		if got, err := value.Parse(x.s); got != x.want || err != api.OK {
			t.Errorf("P6.4: Parse(%q) = %#v, %d, want %#v, OK", x.s, got, err, x.want)
		}
	}
}

func checkError(t *testing.T, texts []string, want api.Errno) {
	t.Helper()
	for _, s := range texts {
		if got, err := value.Parse(s); got != (api.Value{}) || err != want {
			t.Errorf("P6.4: Parse(%q) = %#v, %d, want %#v, %d", s, got, err, api.Value{}, want)
		}
	}
}

func TestParseRejectsNumbersThatAreNoInt(t *testing.T) {
	checkError(t, []string{
		"9223372036854775808", "-9223372036854775809", "9223372036854775817", "9999999999999999999", "-9999999999999999999",
		"10000000000000000000", "18446744073709551615", "18446744073709551616", "18446744073709551617", "-18446744073709551616",
		strings.Repeat("9", 1000), "-" + strings.Repeat("9", 1000), "1" + strings.Repeat("0", 100_000),
		"-0", "00", "-00", "01", "-01", "007", "000", "-007", "0123456789", "00000000000000000000001", "-00000000000000000000001",
		"09223372036854775807", "-09223372036854775808", strings.Repeat("0", 1000), "-" + strings.Repeat("0", 1000),
	}, api.ErrRange)
}

func TestParseRejectsLongTexts(t *testing.T) {
	most := strings.Repeat("a", api.MaxText)
	quotes := strings.Repeat("''", api.MaxText)
	checkError(t, []string{
		"'" + most + "a'", "'" + most + "''" + "'", "'''" + most + "'", "'" + quotes + "''" + "'", "'" + quotes + "a'",
		"'" + strings.Repeat("é", api.MaxText/2+1) + "'", "'" + strings.Repeat("\xff", api.MaxText+1) + "'",
		"'" + strings.Repeat("\x00", 256) + "'", "'" + strings.Repeat("7", 100_000) + "'", "'" + strings.Repeat("''", 100_000) + "'",
	}, api.ErrTooLong)
}

func TestParseRejectsWhatIsNoText(t *testing.T) {
	long := strings.Repeat("a", api.MaxText+1)
	checkError(t, []string{
		"", " ", "-", "--", "+", "+1", "+0", "--1", "-+1", "1-", "1-1", "- 1", " 1", "1 ", "\t1", "1\n", "1\x00", "\x001",
		"1.5", "1.", ".5", "1e5", "0x1f", "0b1", "0o7", "1_000", "1,000", "1a", "a1", "-a", "1'", "'1", "1''", "''1",
		"\u0661", "\uff11", "\u22121", "1\u0660", "\xb1", "1\xb1", "/", ":", "1/", "1:", "/1", ":1",
		// Numbers that would not fit, with something else besides.
		"99999999999999999999x", "007 ", "-0-", " -0",
		"'", "'''", "'''''", "'a", "a'", "'a'b", "a'b'", "'a'b'", "'a''", "''a'", "'a'''b'", " 'a'", "'a' ", "'a'\n", "''''a'", "'a''b",
		"'a' 'b'", "'a''''''", "\"a\"", "`a`", "\u2018a\u2019",
		// Long contents that are not quoted as they must be.
		long, "'" + long, long + "'", "'" + long + "'a'", "'" + long + "''", "''" + long + "'", "'" + long + "'' ", "'a'" + long + "'",
		strings.Repeat("'", 2*api.MaxText+1), strings.Repeat("'", 2*api.MaxText+5),
		"Null", "NULL", "nul", "nulll", " null", "null ", "null\x00", "nullnull", "nil", "-null",
		"True", "TRUE", "tru", "truee", " true", "true ", "t", "-true", "False", "FALSE", "fals", "falsee", " false", "false\n", "f", "-false",
		"truefalse", "abc", "\x00", "\xff", "é",
	}, api.ErrSyntax)
}

func TestParseAgreesWithTheForms(t *testing.T) {
	for _, s := range combinations([]string{"'", "''", "a", "\xff", "-", "0", "7"}, 6) {
		checkParse(t, s)
	}
	for _, s := range combinations([]string{"null", "true", "false", "'", "-", "0", " "}, 4) {
		checkParse(t, s)
	}
}

func TestParseOfChangedTexts(t *testing.T) {
	for _, s := range []string{
		"null", "true", "false", "0", "-1", "905", "9223372036854775807", "-9223372036854775808", "''", "'a'", "'it''s'", "''''", "'a''''b'",
		"'" + strings.Repeat("a", api.MaxText) + "'", "'" + strings.Repeat("''", api.MaxText/2) + strings.Repeat("b", api.MaxText/2) + "'",
	} {
		checkParse(t, s)
		for _, other := range changed(s) {
			checkParse(t, other)
		}
	}
}

// The numbers around the powers of two and of ten, in particular around the
// limits of 64 bits.
func TestParseOfNumbers(t *testing.T) {
	for exponent := range 70 {
		for _, base := range []int64{2, 10} {
			power := new(big.Int).Exp(big.NewInt(base), big.NewInt(int64(exponent)), nil)
			for distance := int64(-12); distance <= 12; distance++ {
				n := new(big.Int).Add(power, big.NewInt(distance))
				for _, s := range []string{n.String(), n.Neg(n).String()} {
					checkParse(t, s)
					checkParse(t, "0"+s)
					checkParse(t, "-0"+s)
					checkParse(t, "+"+s)
				}
			}
		}
	}
}

// rowsForKeys returns slices of up to three values, valid or not, which tell
// apart an encoding that forgets a boundary or a field.
func rowsForKeys() [][]api.Value {
	values := []api.Value{
		null, no, yes, num(0), num(1), num(12), num(2), num(-1), num(math.MinInt64), {Kind: 11}, {Kind: -1}, {Kind: 1<<32 + 1}, {N: 1}, {S: "a"},
		{Kind: api.Int, S: "a"}, {Kind: api.Text, N: 1}, text(""), text("a"), text("b"), text("ab"), text("a\x00"), text("\x00"),
		text("1,0,0:"), text("0,0,0:"), text("2,0,1:a"), text("a2,0,0:"), text(":"), text(","), text("'"), text("','"), text("\xff"), text("0"), text("null"),
	}
	all := [][]api.Value{nil}
	shorter := all
	for range 3 {
		var longer [][]api.Value
		for _, vals := range shorter {
			for _, v := range values {
				longer = append(longer, append(slices.Clone(vals), v))
			}
		}
		all = append(all, longer...)
		shorter = longer
	}
	// Every slice occurs a second time.
	for _, vals := range all {
		all = append(all, slices.Clone(vals))
	}
	return all
}

// Sorted by their values, the slices with equal keys are exactly those that are
// neighbors and equal.
func TestKeyTellsSlicesApart(t *testing.T) {
	rows := rowsForKeys()
	slices.SortFunc(rows, value.CompareRows)
	seen := map[string]bool{}
	for i, vals := range rows {
		key := value.Key(vals)
		if i > 0 && value.CompareRows(rows[i-1], vals) == 0 {
			if value.Key(rows[i-1]) != key {
				t.Fatalf("P6.5: Key(%#v) is once %q and once %q", vals, value.Key(rows[i-1]), key)
			}
			continue
		}
		if seen[key] {
			t.Fatalf("P6.5: Key(%#v) = %q is the key of another slice", vals, key)
		}
		seen[key] = true
	}
}

// No Text can be made to look like another slice, also not one whose content is
// the key of that slice or a part of it.
func TestKeyOfKeys(t *testing.T) {
	originals := rowsForKeys()[:300]
	for length := range 25 {
		for _, digits := range []string{"0", "1", "00", "12"} {
			last := text(strings.Repeat("a", length))
			originals = append(originals, row(text(digits), last), row(api.Value{Kind: api.Text, N: 11, S: digits}, last))
		}
	}
	rows := slices.Clone(originals)
	for _, vals := range originals {
		key := value.Key(vals)
		for from := range len(key) + 1 {
			rows = append(rows,
				row(text(key[from:])), row(text(key[:from])), row(text(key[:from]), text(key[from:])),
				row(api.Value{Kind: api.Text, N: 1, S: key[from:]}), append(slices.Clone(vals), text(key[from:])))
		}
	}
	byKey := map[string][]api.Value{}
	for _, vals := range rows {
		key := value.Key(vals)
		other, ok := byKey[key]
		if ok && value.CompareRows(vals, other) != 0 {
			t.Fatalf("P6.5: %#v and %#v have the same key %q", vals, other, key)
		}
		byKey[key] = vals
	}
}

func TestKeyOfSingleValues(t *testing.T) {
	seen := map[string]api.Value{}
	for _, v := range allValues() {
		key := value.Key(row(v))
		if other, ok := seen[key]; ok {
			t.Fatalf("P6.5: %#v and %#v have the same key", v, other)
		}
		seen[key] = v
	}
}

func TestKeyOfEqualSlices(t *testing.T) {
	if value.Key(nil) != value.Key([]api.Value{}) {
		t.Error("P6.5: nil and an empty slice have different keys")
	}
	vals := row(num(5), text("it's"), null, yes, api.Value{Kind: 7, N: -3, S: "x"})
	longer := append(slices.Clone(vals), num(1))
	if value.Key(vals) != value.Key(longer[:len(vals)]) {
		t.Error("P6.5: equal slices have different keys")
	}
	if value.Key(vals) == value.Key(longer) {
		t.Error("P6.5: a slice and its proper prefix have the same key")
	}
	long := slices.Repeat(vals, 10_000)
	if value.Key(long) != value.Key(slices.Clone(long)) || value.Key(long) == value.Key(long[1:]) || value.Key(long) == value.Key(long[:len(long)-1]) {
		t.Error("P6.5: the keys of long slices")
	}
}

func TestParseOfFormattedValues(t *testing.T) {
	check := func(v api.Value) {
		if got, err := value.Parse(value.Format(v)); got != v || err != api.OK {
			t.Fatalf("P6.6: Parse(Format(%#v)) = %#v, %d", v, got, err)
		}
	}
	for _, v := range allValues() {
		if isValid(v) {
			check(v)
		}
	}
	for n := int64(-100_000); n <= 100_000; n++ {
		check(num(n))
	}
	random := pseudoRandom()
	for range 50_000 {
		check(num(int64(random(1<<31))<<33 ^ int64(random(1<<31))))
		content := make([]byte, random(api.MaxText+1))
		for i := range content {
			content[i] = byte(random(256))
			if random(3) == 0 {
				content[i] = '\''
			}
		}
		check(text(string(content)))
	}
}

// Different values have different texts, and a text that is parsed is the one
// that is formatted.
func TestTextsAreUnique(t *testing.T) {
	for _, s := range combinations([]string{"'", "a", "-", "0", "1", "null", "true"}, 5) {
		v, err := value.Parse(s)
		if err != api.OK {
			continue
		}
		if !value.Valid(v) {
			t.Fatalf("P6.4: Parse(%q) = %#v, which is invalid", s, v)
		}
		if got := value.Format(v); got != s {
			t.Fatalf("P6.4: Format(Parse(%q)) = %q", s, got)
		}
	}
}

func TestCompareIsATotalOrder(t *testing.T) {
	all := slices.Concat(ordered(), allValues()[:200])
	for _, a := range all {
		for _, b := range all {
			forward, back := value.Compare(a, b), value.Compare(b, a)
			if forward != -back {
				t.Fatalf("P6.6: Compare(%#v, %#v) = %d, and the other way round %d", a, b, forward, back)
			}
			if (forward == 0) != (a == b) {
				t.Fatalf("P6.6: Compare(%#v, %#v) = %d", a, b, forward)
			}
			for _, c := range all {
				if forward <= 0 && value.Compare(b, c) <= 0 && value.Compare(a, c) > 0 {
					t.Fatalf("P6.6: %#v, %#v and %#v are not ordered", a, b, c)
				}
			}
		}
	}
}

// The chapter's examples.
func TestExamples(t *testing.T) {
	if got := value.Format(text("it's")); got != "'it''s'" {
		t.Errorf("P6.3: Format of it's = %s", got)
	}
	for _, n := range numbers() {
		if value.Compare(null, num(n)) != -1 || value.Compare(num(n), null) != 1 {
			t.Errorf("P6.2: Null is not less than %d", n)
		}
	}
}

// The arguments are left as they are, also what lies behind them in memory.
func TestArgumentsAreNotChanged(t *testing.T) {
	a, b := ordered(), ordered()
	slices.Reverse(b)
	keptA, keptB := slices.Clone(a), slices.Clone(b)
	value.CompareRows(a[:5], b[:5])
	value.CompareRows(a[:5], a[:7])
	value.Key(a[:5])
	value.Key(b)
	if !slices.Equal(a, keptA) || !slices.Equal(b, keptB) {
		t.Error("P6.2, P6.5: CompareRows or Key changed its arguments")
	}
}
