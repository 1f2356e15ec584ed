package expr_test

import (
	"maps"
	"math"
	"math/big"
	"slices"
	"strings"
	"testing"

	"annalist/api"
	"annalist/expr"
	"annalist/value"
)

var (
	null = api.Value{Kind: api.Null}
	no   = api.Value{Kind: api.Bool, N: 0}
	yes  = api.Value{Kind: api.Bool, N: 1}
)

func num(n int64) api.Value { return api.Value{Kind: api.Int, N: n} }

func text(s string) api.Value { return api.Value{Kind: api.Text, S: s} }

func truth(b bool) api.Value {
	if b {
		return yes
	}
	return no
}

func constant(v api.Value) api.Expr { return api.Expr{Op: api.OpConst, Const: v} }

func column(col int) api.Expr { return api.Expr{Op: api.OpColumn, Col: col} }

func unary(op, a int) api.Expr { return api.Expr{Op: op, A: a} }

func binary(op, a, b int) api.Expr { return api.Expr{Op: op, A: a, B: b} }

func graph(exprs ...api.Expr) []api.Expr { return exprs }

func row(vals ...api.Value) []api.Value { return vals }

// binaryOps and unaryOps are the operators that have operands.
func binaryOps() []int {
	return []int{api.OpAdd, api.OpSub, api.OpMul, api.OpEq, api.OpLess, api.OpAnd, api.OpOr}
}

func unaryOps() []int { return []int{api.OpNot, api.OpIsNull} }

// unknownOps are no operators. Some of them wrap around to one when they are
// truncated.
func unknownOps() []int {
	return []int{0, -1, -2, 12, 13, 99, 1<<8 + api.OpAdd, 1<<16 + api.OpConst, 1<<32 + api.OpColumn, 1<<32 + api.OpNot, math.MinInt, math.MaxInt}
}

// invalidConstants are values that are not valid.
func invalidConstants() []api.Value {
	return []api.Value{
		{N: 1}, {S: "a"}, {Kind: api.Int, S: "5"}, {Kind: api.Text, N: 1, S: "a"}, text(strings.Repeat("a", api.MaxText+1)),
		{Kind: api.Bool, N: 2}, {Kind: api.Bool, N: -1}, {Kind: api.Bool, N: 1, S: "a"}, {Kind: 4}, {Kind: -1}, {Kind: 1<<32 + api.Int},
	}
}

// illegalAt returns operand indexes that are not legal at index i.
func illegalAt(i int) []int {
	return []int{-1, -2, i, i + 1, i + 100, 1 << 32, -1 << 32, math.MinInt, math.MaxInt}
}

// hasA and hasB are the table of the operands in the chapter.
func hasA(op int) bool { return op >= api.OpAdd && op <= api.OpIsNull }

func hasB(op int) bool { return op >= api.OpAdd && op <= api.OpOr }

// legal is the definition of a legal operand index.
func legal(operand, i int) bool { return operand >= 0 && operand < i }

// wantCheck is the definition of Check for the expression at index i, which is
// an index of exprs. It visits a shared operand over and over.
func wantCheck(exprs []api.Expr, i int, columns []int) (int, api.Errno) {
	e := exprs[i]
	if e.Op < api.OpConst || e.Op > api.OpIsNull || e.Op == api.OpConst && !value.Valid(e.Const) {
		return 0, api.ErrSyntax
	}
	if hasA(e.Op) && !legal(e.A, i) || hasB(e.Op) && !legal(e.B, i) || e.Op == api.OpColumn && (e.Col < 0 || e.Col >= len(columns)) {
		return 0, api.ErrRange
	}
	var a, b int
	var err api.Errno
	if hasA(e.Op) {
		if a, err = wantCheck(exprs, e.A, columns); err != api.OK {
			return 0, err
		}
	}
	if hasB(e.Op) {
		if b, err = wantCheck(exprs, e.B, columns); err != api.OK {
			return 0, err
		}
	}
	return wantType(e, a, b, columns)
}

// wantType is the type of an expression whose operands have the types a and b.
func wantType(e api.Expr, a, b int, columns []int) (int, api.Errno) {
	switch e.Op {
	case api.OpConst:
		return e.Const.Kind, api.OK
	case api.OpColumn:
		return columns[e.Col], api.OK
	case api.OpAdd, api.OpSub, api.OpMul:
		if (a == api.Int || a == api.Null) && (b == api.Int || b == api.Null) {
			return api.Int, api.OK
		}
	case api.OpEq, api.OpLess:
		if a == b || a == api.Null || b == api.Null {
			return api.Bool, api.OK
		}
	case api.OpAnd, api.OpOr:
		if (a == api.Bool || a == api.Null) && (b == api.Bool || b == api.Null) {
			return api.Bool, api.OK
		}
	case api.OpNot:
		if a == api.Bool || a == api.Null {
			return api.Bool, api.OK
		}
	case api.OpIsNull:
		return api.Bool, api.OK
	}
	return 0, api.ErrType
}

// wantEval is the definition of Eval. It visits a shared operand over and over.
func wantEval(exprs []api.Expr, i int, vals []api.Value) api.Value {
	if i < 0 || i >= len(exprs) {
		return null
	}
	e := exprs[i]
	if hasA(e.Op) && !legal(e.A, i) || hasB(e.Op) && !legal(e.B, i) {
		return null
	}
	var a, b api.Value
	if hasA(e.Op) {
		a = wantEval(exprs, e.A, vals)
	}
	if hasB(e.Op) {
		b = wantEval(exprs, e.B, vals)
	}
	switch e.Op {
	case api.OpConst:
		return e.Const
	case api.OpColumn:
		for col, v := range vals {
			if col == e.Col {
				return v
			}
		}
		return null
	}
	return wantApplied(e.Op, a, b)
}

// wantApplied is the value of an operator applied to values.
func wantApplied(op int, a, b api.Value) api.Value {
	aTrue, bTrue := a.Kind == api.Bool && a.N == 1, b.Kind == api.Bool && b.N == 1
	switch op {
	case api.OpAdd:
		return wantNumber(a, b, (*big.Int).Add)
	case api.OpSub:
		return wantNumber(a, b, (*big.Int).Sub)
	case api.OpMul:
		return wantNumber(a, b, (*big.Int).Mul)
	case api.OpEq:
		return truth(a.Kind != api.Null && b.Kind != api.Null && value.Compare(a, b) == 0)
	case api.OpLess:
		return truth(a.Kind == b.Kind && a.Kind != api.Null && value.Compare(a, b) == -1)
	case api.OpAnd:
		return truth(aTrue && bTrue)
	case api.OpOr:
		return truth(aTrue || bTrue)
	case api.OpNot:
		return truth(!aTrue)
	case api.OpIsNull:
		return truth(a.Kind == api.Null)
	}
	return null
}

// wantNumber is the value of an arithmetic operator, calculated without a limit
// of 64 bits.
func wantNumber(a, b api.Value, operation func(z, x, y *big.Int) *big.Int) api.Value {
	if a.Kind != api.Int || b.Kind != api.Int {
		return null
	}
	exact := operation(new(big.Int), big.NewInt(a.N), big.NewInt(b.N))
	if !exact.IsInt64() {
		return null
	}
	return num(exact.Int64())
}

// wantColumns is the definition of Columns.
func wantColumns(exprs []api.Expr, root int) []int {
	found := map[int]bool{}
	var visit func(i int)
	visit = func(i int) {
		e := exprs[i]
		if e.Op == api.OpColumn {
			found[e.Col] = true
		}
		if hasA(e.Op) && legal(e.A, i) {
			visit(e.A)
		}
		if hasB(e.Op) && legal(e.B, i) {
			visit(e.B)
		}
	}
	if root >= 0 && root < len(exprs) {
		visit(root)
	}
	return slices.Sorted(maps.Keys(found))
}

// pseudoRandom returns a function that returns numbers from 0 to n-1 in an order
// that is always the same.
func pseudoRandom() func(n int) int {
	state := uint64(7)
	return func(n int) int {
		state = state*6364136223846793005 + 1442695040888963407
		return int((state >> 33) % uint64(n))
	}
}

func checkCheck(t *testing.T, exprs []api.Expr, root int, columns []int, want int, wantErr api.Errno) {
	t.Helper()
	if got, err := expr.Check(exprs, root, columns); got != want || err != wantErr {
		t.Fatalf("P7.1: Check(%+v, %d, %v) = %d, %d, want %d, %d", exprs, root, columns, got, err, want, wantErr)
	}
}

func checkEval(t *testing.T, exprs []api.Expr, root int, vals []api.Value, want api.Value) {
	t.Helper()
	if got := expr.Eval(exprs, root, vals); got != want {
		t.Fatalf("P7.2: Eval(%+v, %d, %+v) = %+v, want %+v", exprs, root, vals, got, want)
	}
}

func checkColumns(t *testing.T, exprs []api.Expr, root int, want []int) {
	t.Helper()
	if got := expr.Columns(exprs, root); !slices.Equal(got, want) {
		t.Fatalf("P7.3: Columns(%+v, %d) = %v, want %v", exprs, root, got, want)
	}
}

func TestCheckOfLeaves(t *testing.T) {
	for _, v := range []api.Value{null, num(0), num(math.MinInt64), text(""), text("\xff"), text(strings.Repeat("a", api.MaxText)), no, yes} {
		checkCheck(t, graph(constant(v)), 0, nil, v.Kind, api.OK)
	}
	for _, v := range invalidConstants() {
		checkCheck(t, graph(constant(v)), 0, nil, 0, api.ErrSyntax)
	}
	columns := []int{api.Int, api.Text, api.Bool, api.Null, api.Int, 17}
	for col, kind := range columns {
		checkCheck(t, graph(column(col)), 0, columns, kind, api.OK)
		checkCheck(t, graph(column(col)), 0, columns[:col], 0, api.ErrRange)
	}
	for _, col := range illegalAt(len(columns)) {
		checkCheck(t, graph(column(col)), 0, columns, 0, api.ErrRange)
	}
	for _, op := range unknownOps() {
		checkCheck(t, graph(api.Expr{Op: op, Const: num(1)}), 0, columns, 0, api.ErrSyntax)
	}
}

// A field that an operator does not use has no effect, whatever it contains.
func TestUnusedFields(t *testing.T) {
	for _, op := range append(binaryOps(), append(unaryOps(), api.OpConst, api.OpColumn)...) {
		plain := api.Expr{Op: op}
		noisy := api.Expr{Op: op, A: 77, B: -77, Col: 77, Const: api.Value{Kind: 77, N: 77, S: "77"}}
		switch {
		case op == api.OpConst:
			plain.Const, noisy.Const = yes, yes
		case op == api.OpColumn:
			plain.Col, noisy.Col = 1, 1
		case hasB(op):
			noisy.A, noisy.B = 0, 0
		default:
			noisy.A = 0
		}
		columns, vals := []int{api.Null, api.Bool}, row(null, yes)
		before, after := graph(constant(null), plain), graph(constant(null), noisy)
		kind, err := expr.Check(before, 1, columns)
		if err != api.OK {
			t.Fatalf("P7.1: Check(%+v) = %d", before, err)
		}
		checkCheck(t, after, 1, columns, kind, api.OK)
		checkEval(t, after, 1, vals, expr.Eval(before, 1, vals))
		checkColumns(t, after, 1, wantColumns(before, 1))
	}
}

// The last two kinds are no kinds of values, but columns may have them.
func TestCheckOfOperators(t *testing.T) {
	kinds := []int{api.Null, api.Int, api.Text, api.Bool, 9, -1}
	for a, kindA := range kinds {
		either := func(kind int) bool { return kindA == kind || kindA == api.Null }
		checkCheck(t, graph(column(a), unary(api.OpIsNull, 0)), 1, kinds, api.Bool, api.OK)
		if either(api.Bool) {
			checkCheck(t, graph(column(a), unary(api.OpNot, 0)), 1, kinds, api.Bool, api.OK)
		} else {
			checkCheck(t, graph(column(a), unary(api.OpNot, 0)), 1, kinds, 0, api.ErrType)
		}
		for b, kindB := range kinds {
			both := func(kind int) bool { return either(kind) && (kindB == kind || kindB == api.Null) }
			for _, op := range binaryOps() {
				want, accepted := api.Bool, false
				switch op {
				case api.OpAdd, api.OpSub, api.OpMul:
					want, accepted = api.Int, both(api.Int)
				case api.OpEq, api.OpLess:
					accepted = both(kindA) || both(kindB)
				case api.OpAnd, api.OpOr:
					accepted = both(api.Bool)
				}
				wantErr := api.OK
				if !accepted {
					want, wantErr = 0, api.ErrType
				}
				checkCheck(t, graph(column(a), column(b), binary(op, 0, 1)), 2, kinds, want, wantErr)
			}
		}
	}
}

func TestCheckOfLimits(t *testing.T) {
	exprs := make([]api.Expr, api.MaxExprs)
	for i := range exprs {
		exprs[i] = constant(yes)
	}
	checkCheck(t, exprs, 0, nil, api.Bool, api.OK)
	checkCheck(t, exprs, api.MaxExprs-1, nil, api.Bool, api.OK)
	for _, root := range illegalAt(api.MaxExprs) {
		checkCheck(t, exprs, root, nil, 0, api.ErrRange)
	}
	// The length is checked first, even if the expression itself is wrong or
	// there is none.
	long := append(exprs, api.Expr{})
	for _, root := range append(illegalAt(len(long)), 0, 100, api.MaxExprs) {
		checkCheck(t, long, root, nil, 0, api.ErrTooLong)
	}
	for _, root := range append(illegalAt(0), 1) {
		checkCheck(t, nil, root, nil, 0, api.ErrRange)
		checkCheck(t, []api.Expr{}, root, []int{api.Int}, 0, api.ErrRange)
	}
}

func TestCheckOfOperandIndexes(t *testing.T) {
	leaves := graph(constant(null), constant(null), constant(null))
	at := len(leaves)
	// The expressions that follow show that an index is not legal merely because
	// the slice has it.
	with := func(e api.Expr) []api.Expr {
		return append(append(slices.Clone(leaves), e), constant(null), constant(null))
	}
	for _, op := range binaryOps() {
		for good := range at {
			for _, bad := range illegalAt(at) {
				checkCheck(t, with(binary(op, good, bad)), at, nil, 0, api.ErrRange)
				checkCheck(t, with(binary(op, bad, good)), at, nil, 0, api.ErrRange)
			}
			for also := range at {
				if _, err := expr.Check(with(binary(op, good, also)), at, nil); err != api.OK {
					t.Errorf("P7.1: Check of operator %d with operands %d, %d at %d = %d", op, good, also, at, err)
				}
			}
		}
	}
	for _, op := range unaryOps() {
		for good := range at {
			checkCheck(t, with(unary(op, good)), at, nil, api.Bool, api.OK)
		}
		for _, bad := range illegalAt(at) {
			checkCheck(t, with(unary(op, bad)), at, nil, 0, api.ErrRange)
		}
	}
}

// Every test has an expression to which more than one error applies.
func TestCheckReturnsTheFirstError(t *testing.T) {
	const (
		number = iota
		word
		badOp
		badConstant
		badColumn
		badOperand
		badType
		last
	)
	leaves := []api.Expr{
		number: constant(num(1)), word: constant(text("a")), badOp: {Op: 99}, badConstant: constant(api.Value{Kind: 4}),
		badColumn: column(0), badOperand: unary(api.OpNot, 50), badType: binary(api.OpMul, word, number),
	}
	errs := []api.Errno{
		badOp: api.ErrSyntax, badConstant: api.ErrSyntax, badColumn: api.ErrRange, badOperand: api.ErrRange, badType: api.ErrType,
	}
	for _, op := range binaryOps() {
		for a := range last {
			for _, illegal := range illegalAt(last) {
				checkCheck(t, append(leaves, binary(op, a, illegal)), last, nil, 0, api.ErrRange)
				checkCheck(t, append(leaves, binary(op, illegal, a)), last, nil, 0, api.ErrRange)
			}
			for b := range last {
				want := errs[a]
				if want == api.OK {
					want = errs[b]
				}
				// The types of operands matter only if both are right.
				if want != api.OK {
					checkCheck(t, append(leaves, binary(op, a, b)), last, nil, 0, want)
				}
			}
		}
	}
	for _, op := range unaryOps() {
		for a := badOp; a < last; a++ {
			checkCheck(t, append(leaves, unary(op, a)), last, nil, 0, errs[a])
		}
	}
	for _, op := range unknownOps() {
		checkCheck(t, append(leaves, api.Expr{Op: op, A: badType, B: 50, Col: -1}), last, nil, 0, api.ErrSyntax)
	}
}

// Only what root reaches is checked.
func TestCheckIgnoresOtherExpressions(t *testing.T) {
	wrong := graph(api.Expr{Op: 99}, constant(api.Value{Kind: 4}), column(5), unary(api.OpNot, 3), binary(api.OpAdd, 9, -1))
	right := graph(constant(num(1)), binary(api.OpAdd, 5, 5), binary(api.OpEq, 6, 5), unary(api.OpNot, 7))
	exprs := slices.Concat(wrong, right, wrong)
	for root, want := range map[int]int{5: api.Int, 6: api.Int, 7: api.Bool, 8: api.Bool} {
		checkCheck(t, exprs, root, nil, want, api.OK)
	}
	for i := range wrong {
		for _, root := range []int{i, len(wrong) + len(right) + i} {
			if _, err := expr.Check(exprs, root, nil); err == api.OK {
				t.Errorf("P7.1: Check of the wrong expression %d = OK", root)
			}
		}
	}
}

func TestEvalOfLeaves(t *testing.T) {
	for _, v := range append(invalidConstants(), null, num(5), text("a"), no, yes) {
		checkEval(t, graph(constant(v)), 0, nil, v)
		checkEval(t, graph(column(1)), 0, row(null, v, null), v)
		checkEval(t, graph(column(1)), 0, row(v), null)
	}
	vals := row(num(1), text("b"), yes)
	for col, v := range vals {
		checkEval(t, graph(column(col)), 0, vals, v)
		checkEval(t, graph(column(col)), 0, vals[:col], null)
		checkEval(t, graph(column(col)), 0, nil, null)
	}
	for _, col := range illegalAt(len(vals)) {
		checkEval(t, graph(column(col)), 0, vals, null)
	}
}

// interestingNumbers are numbers whose sums, differences and products lie on
// both sides of the limits of 64 bits.
func interestingNumbers() []int64 {
	all := []int64{math.MinInt64, math.MaxInt64, math.MaxInt64 / 2, math.MaxInt64 / 3, math.MinInt64 / 3, 3037000499, 4294967296, 6074001000}
	for shift := range 63 {
		power := int64(1) << shift
		all = append(all, power, -power, power-1, power+1, -power-1)
	}
	return append(all, 0, 7, -7, math.MaxInt64-1, math.MinInt64+1)
}

func TestArithmetic(t *testing.T) {
	tests := []struct {
		op   int
		a, b int64
		want api.Value
	}{
		{api.OpAdd, 2, 3, num(5)}, {api.OpSub, 2, 3, num(-1)}, {api.OpMul, 2, -3, num(-6)},
		{api.OpAdd, math.MaxInt64, 0, num(math.MaxInt64)}, {api.OpAdd, math.MaxInt64, 1, null}, {api.OpAdd, math.MinInt64, -1, null},
		{api.OpAdd, math.MinInt64, math.MinInt64, null}, {api.OpAdd, math.MaxInt64, math.MinInt64, num(-1)},
		{api.OpSub, math.MinInt64, math.MinInt64, num(0)}, {api.OpSub, 0, math.MinInt64, null}, {api.OpSub, -1, math.MinInt64, num(math.MaxInt64)},
		{api.OpSub, math.MinInt64, 1, null}, {api.OpSub, math.MaxInt64, -1, null}, {api.OpSub, -2, math.MaxInt64, null},
		{api.OpMul, math.MinInt64, -1, null}, {api.OpMul, -1, math.MinInt64, null}, {api.OpMul, math.MinInt64, 1, num(math.MinInt64)},
		{api.OpMul, 0, math.MinInt64, num(0)}, {api.OpMul, math.MinInt64, 0, num(0)}, {api.OpMul, math.MaxInt64, -1, num(-math.MaxInt64)},
		{api.OpMul, 1 << 32, 1 << 32, null}, {api.OpMul, 1 << 31, -1 << 32, num(math.MinInt64)}, {api.OpMul, 1 << 31, 1 << 32, null},
	}
	for _, x := range tests {
		checkEval(t, graph(constant(num(x.a)), constant(num(x.b)), binary(x.op, 0, 1)), 2, nil, x.want)
	}
	for _, a := range interestingNumbers() {
		for _, b := range interestingNumbers() {
			for _, op := range []int{api.OpAdd, api.OpSub, api.OpMul} {
				checkEval(t, graph(column(0), column(1), binary(op, 0, 1)), 2, row(num(a), num(b)), wantApplied(op, num(a), num(b)))
			}
		}
	}
}

// Values that look like numbers are none.
func TestArithmeticOfOtherKinds(t *testing.T) {
	for _, v := range []api.Value{null, text(""), text("1"), no, yes, {N: 1}, {Kind: api.Text, N: 1}, {Kind: 4, N: 1}, {Kind: 1<<32 + api.Int, N: 1}} {
		for _, op := range []int{api.OpAdd, api.OpSub, api.OpMul} {
			for _, vals := range [][]api.Value{row(v, num(1)), row(num(1), v), row(v, v), row(num(0), v), row(v, num(0))} {
				checkEval(t, graph(column(0), column(1), binary(op, 0, 1)), 2, vals, null)
			}
		}
	}
}

func TestComparisons(t *testing.T) {
	const equal, less, neither = 1, 2, 0
	tests := []struct {
		a, b api.Value
		want int
	}{
		{num(5), num(5), equal}, {num(-1), num(1), less}, {num(1), num(-1), neither}, {num(math.MinInt64), num(math.MaxInt64), less},
		{num(9), num(10), less}, {text("9"), text("10"), neither}, {text("10"), text("9"), less},
		{text("a"), text("a"), equal}, {text(""), text("a"), less}, {text("Z"), text("a"), less}, {text("\x7f"), text("\x80"), less},
		{no, no, equal}, {yes, yes, equal}, {no, yes, less}, {yes, no, neither},
		{null, null, neither}, {null, num(0), neither}, {num(0), null, neither}, {null, text(""), neither}, {text(""), null, neither},
		{num(0), text(""), neither}, {num(1), yes, neither}, {yes, num(1), neither}, {text(""), no, neither}, {num(5), text("5"), neither},
		{api.Value{N: 1}, api.Value{N: 1}, neither}, {api.Value{N: 1}, api.Value{N: 2}, neither}, {null, api.Value{S: "a"}, neither},
		{api.Value{Kind: 9, N: 1}, api.Value{Kind: 9, N: 1}, equal}, {api.Value{Kind: -1}, api.Value{Kind: -1, S: "a"}, less},
		{api.Value{Kind: api.Int, S: "a"}, num(0), neither}, {num(0), api.Value{Kind: api.Int, S: "a"}, less},
	}
	for _, x := range tests {
		exprs := graph(column(0), column(1), binary(api.OpEq, 0, 1), binary(api.OpLess, 0, 1))
		checkEval(t, exprs, 2, row(x.a, x.b), truth(x.want == equal))
		checkEval(t, exprs, 3, row(x.a, x.b), truth(x.want == less))
	}
}

func TestLogic(t *testing.T) {
	untrue := []api.Value{
		no, null, num(1), num(0), text("true"), text(""), {N: 1}, {Kind: api.Bool, N: 2}, {Kind: api.Bool, N: -1}, {Kind: api.Text, N: 1},
		{Kind: 4, N: 1}, {Kind: api.Bool, N: 1<<32 + 1}, {Kind: 1<<32 + api.Bool, N: 1},
	}
	operands := append(row(yes, api.Value{Kind: api.Bool, N: 1, S: "a"}), untrue...)
	for i, a := range operands {
		aTrue := i < 2
		checkEval(t, graph(column(0), unary(api.OpNot, 0)), 1, row(a), truth(!aTrue))
		checkEval(t, graph(column(0), unary(api.OpIsNull, 0)), 1, row(a), truth(a == null || a == api.Value{N: 1}))
		for k, b := range operands {
			bTrue := k < 2
			checkEval(t, graph(column(0), column(1), binary(api.OpAnd, 0, 1)), 2, row(a, b), truth(aTrue && bTrue))
			checkEval(t, graph(column(0), column(1), binary(api.OpOr, 0, 1)), 2, row(a, b), truth(aTrue || bTrue))
		}
	}
}

// An expression that is wrong evaluates to Null, whatever its operator, and is
// Null as an operand as well.
func TestEvalOfWrongExpressions(t *testing.T) {
	leaves := graph(constant(yes), constant(num(1)), column(0))
	at := len(leaves)
	checkNull := func(e api.Expr) {
		t.Helper()
		exprs := append(slices.Clone(leaves), e, unary(api.OpIsNull, at), constant(yes))
		checkEval(t, exprs, at, row(num(3)), null)
		checkEval(t, exprs, at+1, row(num(3)), yes)
	}
	for good := range at {
		for _, bad := range illegalAt(at) {
			for _, op := range binaryOps() {
				checkNull(binary(op, good, bad))
				checkNull(binary(op, bad, good))
				checkNull(binary(op, bad, bad))
			}
			for _, op := range unaryOps() {
				checkNull(api.Expr{Op: op, A: bad, B: good})
			}
		}
		for _, op := range unknownOps() {
			checkNull(api.Expr{Op: op, A: good, B: good, Const: yes})
		}
	}
	for _, root := range illegalAt(at) {
		checkEval(t, leaves, root, row(yes), null)
	}
	for _, root := range append(illegalAt(0), 1) {
		checkEval(t, nil, root, row(yes), null)
		checkEval(t, []api.Expr{}, root, nil, null)
	}
}

func TestColumns(t *testing.T) {
	exprs := graph(
		column(7), column(2), column(7), column(-5), constant(num(1)),
		binary(api.OpAdd, 0, 1), binary(api.OpLess, 5, 2), api.Expr{Op: api.OpNot, A: 6, B: 3}, binary(api.OpOr, 7, 3),
		api.Expr{Op: api.OpConst, A: 0, B: 1, Col: 8}, api.Expr{Op: api.OpColumn, A: 0, B: 1, Col: 11}, api.Expr{Op: 99, A: 0, B: 1, Col: 9},
		binary(api.OpEq, 0, 12), binary(api.OpEq, 13, 1), binary(api.OpAnd, 12, 13), unary(api.OpIsNull, 15), binary(api.OpAdd, 11, 3),
		api.Expr{Op: api.OpAdd, A: 4, B: 4, Col: 6}, column(math.MaxInt), column(math.MinInt), binary(api.OpEq, 18, 19), binary(api.OpEq, 20, 8),
	)
	want := [][]int{
		{7}, {2}, {7}, {-5}, nil,
		{2, 7}, {2, 7}, {2, 7}, {-5, 2, 7},
		nil, {11}, nil,
		{7}, {2}, {2, 7}, nil, {-5},
		nil, {math.MaxInt}, {math.MinInt}, {math.MinInt, math.MaxInt}, {math.MinInt, -5, 2, 7, math.MaxInt},
	}
	for root := range exprs {
		checkColumns(t, exprs, root, want[root])
	}
	for _, root := range illegalAt(len(exprs)) {
		checkColumns(t, exprs, root, nil)
	}
	for _, root := range append(illegalAt(0), 1) {
		checkColumns(t, nil, root, nil)
		checkColumns(t, []api.Expr{}, root, nil)
	}
}

// checkAll compares all functions with their definitions for every root.
func checkAll(t *testing.T, exprs []api.Expr, columns []int, vals []api.Value) {
	t.Helper()
	for root := -1; root <= len(exprs); root++ {
		want, wantErr := 0, api.ErrRange
		if root >= 0 && root < len(exprs) {
			want, wantErr = wantCheck(exprs, root, columns)
		}
		checkCheck(t, exprs, root, columns, want, wantErr)
		checkEval(t, exprs, root, vals, wantEval(exprs, root, vals))
		checkColumns(t, exprs, root, wantColumns(exprs, root))
		if got := expr.Eval(exprs, root, vals); wantErr == api.OK && got.Kind != want && got.Kind != api.Null {
			t.Fatalf("P7.4: Check(%+v, %d, %v) = %d, but Eval over %+v = %+v", exprs, root, columns, want, vals, got)
		}
	}
}

// smallExprs are expressions for index i of a graph. Some of them are wrong.
func smallExprs(i int) []api.Expr {
	all := graph(
		constant(null), constant(num(3)), constant(text("x")), constant(yes), constant(api.Value{Kind: api.Bool, N: 2}),
		column(0), column(1), column(9), column(-1), api.Expr{Op: 0}, api.Expr{Op: 12},
	)
	for a := -1; a <= i; a++ {
		for _, op := range unaryOps() {
			all = append(all, unary(op, a))
		}
		for b := -1; b <= i; b++ {
			for _, op := range binaryOps() {
				all = append(all, binary(op, a, b))
			}
		}
	}
	return all
}

func TestAllSmallGraphs(t *testing.T) {
	columns, vals := []int{api.Int, api.Bool}, row(num(2), no)
	for _, first := range smallExprs(0) {
		for _, second := range smallExprs(1) {
			checkAll(t, graph(first, second), columns, vals)
			for _, third := range smallExprs(2) {
				checkAll(t, graph(first, second, third), columns, vals)
			}
		}
	}
}

// randomValue returns a value of the given kind, or sometimes Null. There are
// few of them, so that equal ones are frequent.
func randomValue(random func(n int) int, kind int) api.Value {
	if random(8) == 0 {
		return null
	}
	switch kind {
	case api.Int:
		numbers := []int64{0, 1, -1, 2, 3, math.MaxInt64, math.MinInt64, 1 << 32, -1 << 31}
		return num(numbers[random(len(numbers))])
	case api.Text:
		return text([]string{"", "a", "b", "it's", "\xff"}[random(5)])
	case api.Bool:
		return truth(random(2) == 1)
	}
	return null
}

// randomGraph returns a graph of the given length. One expression in wrongness
// is likely to be wrong; if wrongness is 0, none is, except for its type.
func randomGraph(random func(n int) int, length, columns, wrongness int) []api.Expr {
	var exprs []api.Expr
	for i := range length {
		wrong := wrongness > 0 && random(wrongness) == 0
		if i == 0 || random(4) == 0 {
			exprs = append(exprs, randomLeaf(random, columns, wrong))
			continue
		}
		e := api.Expr{Op: api.OpAdd + random(api.OpIsNull-api.OpAdd+1), A: random(i), B: random(i), Col: random(9), Const: num(int64(random(9)))}
		if wrong {
			illegal := illegalAt(i)
			switch random(3) {
			case 0:
				e.A = illegal[random(len(illegal))]
			case 1:
				e.B = illegal[random(len(illegal))]
			case 2:
				e.Op = unknownOps()[random(len(unknownOps()))]
			}
		}
		exprs = append(exprs, e)
	}
	return exprs
}

// randomLeaf returns a constant or a column.
func randomLeaf(random func(n int) int, columns int, wrong bool) api.Expr {
	switch {
	case wrong && random(2) == 0:
		return constant(invalidConstants()[random(len(invalidConstants()))])
	case wrong:
		illegal := illegalAt(columns)
		return column(illegal[random(len(illegal))])
	case columns == 0 || random(2) == 0:
		return constant(randomValue(random, api.Int+random(3)))
	}
	return column(random(columns))
}

func TestRandomGraphs(t *testing.T) {
	random := pseudoRandom()
	for range 30_000 {
		columns := make([]int, random(5))
		vals := make([]api.Value, len(columns))
		for i := range columns {
			columns[i] = random(api.Bool + 1)
			vals[i] = randomValue(random, columns[i])
		}
		exprs := randomGraph(random, 1+random(16), len(columns), []int{0, 0, 8, 30}[random(4)])
		checkAll(t, exprs, columns, vals[:len(vals)-random(len(vals)+1)/2])
	}
}

// In a graph whose operators match the types of the operands Check succeeds, so
// that what it promises of Eval is really tested.
func TestTypesOfValues(t *testing.T) {
	random := pseudoRandom()
	columns := []int{api.Int, api.Text, api.Bool, api.Null, api.Int, api.Bool}
	succeeded := map[int]int{}
	for range 60_000 {
		vals := make([]api.Value, len(columns))
		for i, kind := range columns {
			vals[i] = randomValue(random, kind)
		}
		exprs := randomGraph(random, 1+random(8), len(columns), 0)
		root := len(exprs) - 1
		kind, err := expr.Check(exprs, root, columns)
		if err != api.OK {
			continue
		}
		got := expr.Eval(exprs, root, vals)
		if got.Kind != kind && got.Kind != api.Null || !value.Valid(got) {
			t.Fatalf("P7.4: Check(%+v, %d, %v) = %d, but Eval over %+v = %+v", exprs, root, columns, kind, vals, got)
		}
		if got.Kind == kind {
			succeeded[kind]++
		}
	}
	for kind := api.Null; kind <= api.Bool; kind++ {
		if succeeded[kind] < 100 {
			t.Errorf("only %d graphs of type %d have a value of that type", succeeded[kind], kind)
		}
	}
}

// doubled returns a graph in which every operator has its predecessor as both
// operands, so that root has 2^(length-1) leaves.
func doubled(leaf api.Expr, op, length int) []api.Expr {
	exprs := graph(leaf)
	for i := range length - 1 {
		exprs = append(exprs, binary(op, i, i))
	}
	return exprs
}

func TestSharedOperandsTakePolynomialTime(t *testing.T) {
	for _, op := range binaryOps() {
		leaf, kind := column(3), api.Bool
		if op == api.OpAdd || op == api.OpSub || op == api.OpMul {
			kind = api.Int
		}
		columns := []int{api.Text, api.Text, api.Text, kind}
		exprs := doubled(leaf, op, api.MaxExprs)
		checkCheck(t, exprs, api.MaxExprs-1, columns, kind, api.OK)
		checkColumns(t, exprs, api.MaxExprs-1, []int{3})
		want := null
		for i := range exprs {
			if i > 0 {
				want = wantApplied(op, want, want)
			}
			checkEval(t, exprs, i, nil, want)
		}
		checkCheck(t, doubled(api.Expr{Op: 99}, op, api.MaxExprs), api.MaxExprs-1, columns, 0, api.ErrSyntax)
		checkCheck(t, doubled(column(4), op, api.MaxExprs), api.MaxExprs-1, columns, 0, api.ErrRange)
		checkCheck(t, doubled(binary(api.OpAdd, 0, 0), op, api.MaxExprs), api.MaxExprs-1, columns, 0, api.ErrRange)
		if op != api.OpEq && op != api.OpLess {
			checkCheck(t, doubled(constant(text("a")), op, api.MaxExprs), api.MaxExprs-1, columns, 0, api.ErrType)
		}
	}
}

// Eval and Columns have no limit of their own, neither of the length nor of the
// depth of a graph.
func TestLongGraphs(t *testing.T) {
	const length = 300_000
	exprs := doubled(column(1), api.OpOr, length)
	checkLong := func(root int, vals []api.Value, want api.Value) {
		t.Helper()
		if got := expr.Eval(exprs, root, vals); got != want {
			t.Fatalf("P7.2: Eval of %d expressions with root %d = %+v, want %+v", length, root, got, want)
		}
		if got := expr.Columns(exprs, root); !slices.Equal(got, []int{1}) {
			t.Fatalf("P7.3: Columns of %d expressions with root %d = %v, want [1]", length, root, got)
		}
	}
	for _, root := range []int{api.MaxExprs - 1, api.MaxExprs, length - 1} {
		checkLong(root, row(null, yes), yes)
		checkLong(root, row(null, no), no)
	}
	if _, err := expr.Check(exprs, length-1, []int{api.Bool, api.Bool}); err != api.ErrTooLong {
		t.Errorf("P7.1: Check of %d expressions = %d, want ErrTooLong", length, err)
	}
}

// A result is new, and the arguments stay as they are.
func TestArgumentsAreNotChanged(t *testing.T) {
	exprs := graph(column(3), column(1), column(3), binary(api.OpEq, 0, 1), binary(api.OpEq, 2, 1), binary(api.OpAnd, 3, 4))
	columns := []int{api.Bool, api.Int, api.Text, api.Int}
	vals := row(yes, num(1), text("a"), num(1))
	exprsBefore, columnsBefore, valsBefore := slices.Clone(exprs), slices.Clone(columns), slices.Clone(vals)
	for range 2 {
		checkCheck(t, exprs, 5, columns, api.Bool, api.OK)
		checkEval(t, exprs, 5, vals, yes)
		checkColumns(t, exprs, 5, []int{1, 3})
		// Changing one result does not change the next.
		clear(expr.Columns(exprs, 5))
	}
	if !slices.Equal(exprs, exprsBefore) || !slices.Equal(columns, columnsBefore) || !slices.Equal(vals, valsBefore) {
		t.Errorf("the arguments were changed to %+v, %v, %+v", exprs, columns, vals)
	}
}

func TestExamples(t *testing.T) {
	checkEval(t, graph(constant(num(2)), constant(num(3)), binary(api.OpAdd, 0, 1)), 2, nil, num(5))
	checkEval(t, graph(constant(null), constant(null), binary(api.OpEq, 0, 1)), 2, nil, no)
}
