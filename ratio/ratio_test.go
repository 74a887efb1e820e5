package ratio

import (
	"math/big"
	"testing"

	"quarterday/api"
)

const most = 1<<63 - 1

// edges are the numbers at which 64 bits, or a half of them, are just enough or just too few, parts of 2^63 - 1 (it is 49 times 188232082384791343), and small ones of both signs.
var edges = []int64{
	least, least + 1, least + 2, -1 << 62, -1 << 32, -188232082384791343, -1 << 31, -49, -12, -7, -6, -4, -3, -2, -1,
	0, 1, 2, 3, 4, 6, 7, 12, 49, 1 << 31, 3037000500, 1 << 32, 188232082384791343, 1 << 62, most - 2, most - 1, most,
}

// numbers are the edges and others spread between them, by a fixed rule.
func numbers() []int64 {
	l := append([]int64{}, edges...)
	state := uint64(1)
	for i := range 60 {
		state = state*6364136223846793005 + 1442695040888963407
		l = append(l, int64(state)>>(i%60))
	}
	return l
}

// ratios are those of the numbers at the edges, as far as they may be, and some spread between them.
func ratios() []api.Ratio {
	var l []api.Ratio
	for i, n := range edges {
		for j, d := range edges {
			if d > 0 && inLowestTerms(n, d) && (i+j)%3 == 0 {
				l = append(l, api.Ratio{N: n, D: d})
			}
		}
	}
	spread := numbers()[len(edges):]
	for i, n := range spread {
		d := spread[(7*i+3)%len(spread)]
		if d > 0 && inLowestTerms(n, d) {
			l = append(l, api.Ratio{N: n, D: d})
		}
	}
	for _, n := range []int64{least, least + 1, -1, 0, 1, most} {
		l = append(l, api.Ratio{N: n, D: 1})
	}
	return append(l, api.Ratio{N: least, D: most}, api.Ratio{N: 1, D: most}, api.Ratio{N: most - 1, D: most}, api.Ratio{N: least, D: 3})
}

// inLowestTerms is asked apart from the program, which must not judge itself.
func inLowestTerms(n, d int64) bool {
	divisor := new(big.Int).GCD(nil, nil, big.NewInt(n), big.NewInt(d))
	return divisor.IsInt64() && divisor.Int64() == 1
}

// wrong are those that may not be: D is 0 or below, a number but 1 divides both, or 0 is not by 1.
var wrong = []api.Ratio{
	{}, {N: 1}, {N: -1}, {N: most}, {N: least},
	{N: 1, D: -1}, {N: 0, D: -1}, {N: 3, D: -2}, {N: -3, D: -2}, {N: least, D: -1}, {N: 1, D: least}, {N: least, D: least}, {N: 0, D: least}, {N: most, D: -most},
	{N: 2, D: 4}, {N: -2, D: 4}, {N: 6, D: 4}, {N: 9, D: 6}, {N: -5, D: 5}, {N: 7, D: 7}, {N: most, D: most}, {N: most, D: 49}, {N: -most, D: 7}, {N: least, D: 2}, {N: least, D: 1 << 62},
	{N: 0, D: 2}, {N: 0, D: 3}, {N: 0, D: most},
}

// exact is a as a ratio without bounds.
func exact(a api.Ratio) *big.Rat {
	return new(big.Rat).SetFrac(big.NewInt(a.N), big.NewInt(a.D))
}

// fitted is what a call must tell whose answer is r; Rat keeps it in lowest terms.
func fitted(r *big.Rat) (api.Ratio, api.Errno) {
	if !r.Num().IsInt64() || !r.Denom().IsInt64() {
		return api.Ratio{}, api.ErrOver
	}
	return api.Ratio{N: r.Num().Int64(), D: r.Denom().Int64()}, api.OK
}

// told is a call of two ratios, and what it must tell.
type told struct {
	a, b, r api.Ratio
	e       api.Errno
}

type call func(a, b api.Ratio) (api.Ratio, api.Errno)

func checkTold(t *testing.T, name string, how call, l []told) {
	t.Helper()
	for _, x := range l {
		if r, e := how(x.a, x.b); r != x.r || e != x.e {
			t.Errorf("%s(%v, %v): got %v, %d, want %v, %d", name, x.a, x.b, r, e, x.r, x.e)
		}
	}
}

// checkExact holds a call against the same one of ratios without bounds.
func checkExact(t *testing.T, name string, how call, without func(a, b *big.Rat) *big.Rat) {
	t.Helper()
	l := ratios()
	for _, a := range l {
		for _, b := range l {
			if name == "Div" && b.N == 0 {
				continue
			}
			want, wantError := fitted(without(exact(a), exact(b)))
			if r, e := how(a, b); r != want || e != wantError {
				t.Errorf("%s(%v, %v): got %v, %d, want %v, %d", name, a, b, r, e, want, wantError)
			}
		}
	}
}

// by1 is the ratio that n is.
func by1(n int64) api.Ratio { return api.Ratio{N: n, D: 1} }

// P3.1

func TestCheck(t *testing.T) {
	for _, a := range []api.Ratio{
		{N: 0, D: 1}, {N: 1, D: 1}, {N: -1, D: 1}, {N: 1, D: 2}, {N: -5, D: 3}, {N: 5, D: 3}, {N: 9, D: 4},
		{N: 1, D: most}, {N: -1, D: most}, {N: most, D: 1}, {N: least, D: 1}, {N: least, D: 3}, {N: least, D: most}, {N: most - 1, D: most}, {N: most, D: 1 << 62},
	} {
		if e := Check(a); e != api.OK {
			t.Errorf("Check(%v): got %d, want none", a, e)
		}
	}
	for _, a := range wrong {
		if e := Check(a); e != api.ErrArg {
			t.Errorf("Check(%v): got %d, want %d", a, e, api.ErrArg)
		}
	}
}

func TestCheckOfAllNumbers(t *testing.T) {
	for _, n := range numbers() {
		for _, d := range numbers() {
			want := api.ErrArg
			if d > 0 && inLowestTerms(n, d) {
				want = api.OK
			}
			if e := Check(api.Ratio{N: n, D: d}); e != want {
				t.Errorf("Check(%d by %d): got %d, want %d", n, d, e, want)
			}
		}
	}
}

func TestMake(t *testing.T) {
	for _, x := range []struct {
		n, d int64
		r    api.Ratio
		e    api.Errno
	}{
		{6, -4, api.Ratio{N: -3, D: 2}, api.OK},
		{6, 4, api.Ratio{N: 3, D: 2}, api.OK},
		{-6, -4, api.Ratio{N: 3, D: 2}, api.OK},
		{-6, 4, api.Ratio{N: -3, D: 2}, api.OK},
		{5, 3, api.Ratio{N: 5, D: 3}, api.OK},
		{12, 4, by1(3), api.OK},
		{7, 7, by1(1), api.OK},
		{1, 1, by1(1), api.OK},
		{1, -1, by1(-1), api.OK},
		{0, 1, by1(0), api.OK},
		{0, -7, by1(0), api.OK},
		{0, 12, by1(0), api.OK},
		{0, most, by1(0), api.OK},
		{0, least, by1(0), api.OK},
		{most, 1, by1(most), api.OK},
		{most, -1, by1(-most), api.OK},
		{most, most, by1(1), api.OK},
		{most, -most, by1(-1), api.OK},
		{1, most, api.Ratio{N: 1, D: most}, api.OK},
		{1, -most, api.Ratio{N: -1, D: most}, api.OK},
		{-1, -most, api.Ratio{N: 1, D: most}, api.OK},
		{least, 1, by1(least), api.OK},
		{least, most, api.Ratio{N: least, D: most}, api.OK},
		{least, 2, by1(-1 << 62), api.OK},
		{least, -2, by1(1 << 62), api.OK},
		{least, least, by1(1), api.OK},
		{2, least, api.Ratio{N: -1, D: 1 << 62}, api.OK},
		{-2, least, api.Ratio{N: 1, D: 1 << 62}, api.OK},
		{-6, least, api.Ratio{N: 3, D: 1 << 62}, api.OK},
		{-1 << 62, least, api.Ratio{N: 1, D: 2}, api.OK},
		{1 << 62, least, api.Ratio{N: -1, D: 2}, api.OK},
		{least, -1, api.Ratio{}, api.ErrOver},
		{least, -3, api.Ratio{}, api.ErrOver},
		{least, -most, api.Ratio{}, api.ErrOver},
		{1, least, api.Ratio{}, api.ErrOver},
		{-1, least, api.Ratio{}, api.ErrOver},
		{most, least, api.Ratio{}, api.ErrOver},
		{-3, least, api.Ratio{}, api.ErrOver},
		{5, 0, api.Ratio{}, api.ErrZero},
		{0, 0, api.Ratio{}, api.ErrZero},
		{least, 0, api.Ratio{}, api.ErrZero},
	} {
		if r, e := Make(x.n, x.d); r != x.r || e != x.e {
			t.Errorf("Make(%d, %d): got %v, %d, want %v, %d", x.n, x.d, r, e, x.r, x.e)
		}
	}
}

func TestMakeIsExact(t *testing.T) {
	for _, n := range numbers() {
		for _, d := range numbers() {
			if d == 0 {
				continue
			}
			want, wantError := fitted(new(big.Rat).SetFrac(big.NewInt(n), big.NewInt(d)))
			if r, e := Make(n, d); r != want || e != wantError {
				t.Errorf("Make(%d, %d): got %v, %d, want %v, %d", n, d, r, e, want, wantError)
			}
		}
	}
}

// P3.2

func TestAdd(t *testing.T) {
	checkTold(t, "Add", Add, []told{
		{api.Ratio{N: 1, D: 6}, api.Ratio{N: 1, D: 3}, api.Ratio{N: 1, D: 2}, api.OK},
		{api.Ratio{N: 1, D: 2}, api.Ratio{N: 1, D: 3}, api.Ratio{N: 5, D: 6}, api.OK},
		{api.Ratio{N: 1, D: 6}, api.Ratio{N: 1, D: 10}, api.Ratio{N: 4, D: 15}, api.OK},
		{api.Ratio{N: -1, D: 2}, api.Ratio{N: 1, D: 3}, api.Ratio{N: -1, D: 6}, api.OK},
		{api.Ratio{N: -1, D: 2}, api.Ratio{N: 1, D: 2}, by1(0), api.OK},
		{by1(0), by1(0), by1(0), api.OK},
		{by1(0), api.Ratio{N: least, D: most}, api.Ratio{N: least, D: most}, api.OK},
		{by1(most), by1(-most), by1(0), api.OK},
		{by1(most), by1(least), by1(-1), api.OK},
		{by1(most - 1), by1(1), by1(most), api.OK},
		{by1(-most), by1(-1), by1(least), api.OK},
		// Neither the products nor their sum fit on the way, but the ratio does.
		{api.Ratio{N: most, D: 2}, api.Ratio{N: most, D: 2}, by1(most), api.OK},
		{api.Ratio{N: -most, D: 2}, api.Ratio{N: -1, D: 2}, by1(-1 << 62), api.OK},
		{api.Ratio{N: least, D: 3}, api.Ratio{N: least, D: 3}, api.Ratio{}, api.ErrOver},
		{api.Ratio{N: least, D: 3}, api.Ratio{N: -1, D: 3}, by1(-3074457345618258603), api.OK},
		{api.Ratio{N: 1, D: 1 << 62}, api.Ratio{N: 1, D: 1 << 62}, api.Ratio{N: 1, D: 1 << 61}, api.OK},
		{api.Ratio{N: 1, D: most}, api.Ratio{N: -1, D: most}, by1(0), api.OK},
		{api.Ratio{N: least, D: most}, api.Ratio{N: most - 1, D: most}, api.Ratio{N: -2, D: most}, api.OK},
		{api.Ratio{N: least, D: most}, api.Ratio{N: 1, D: most}, by1(-1), api.OK},
		{api.Ratio{N: 1, D: 49}, api.Ratio{N: 1, D: 188232082384791343}, api.Ratio{N: 188232082384791392, D: most}, api.OK},
		// By one, too great.
		{by1(most), by1(1), api.Ratio{}, api.ErrOver},
		{by1(least), by1(-1), api.Ratio{}, api.ErrOver},
		{by1(least), by1(least), api.Ratio{}, api.ErrOver},
		{by1(most), by1(most), api.Ratio{}, api.ErrOver},
		{by1(1 << 62), by1(1 << 62), api.Ratio{}, api.ErrOver},
		{by1(-1 << 62), by1(-1 << 62), by1(least), api.OK},
		{by1(1 << 62), api.Ratio{N: 1, D: 2}, api.Ratio{}, api.ErrOver},
		{by1(most), api.Ratio{N: 1, D: most}, api.Ratio{}, api.ErrOver},
		{api.Ratio{N: 1, D: most}, api.Ratio{N: 1, D: 2}, api.Ratio{}, api.ErrOver},
		{api.Ratio{N: 1, D: most}, api.Ratio{N: -1, D: most - 1}, api.Ratio{}, api.ErrOver},
		{api.Ratio{N: 1, D: 1 << 62}, api.Ratio{N: 1, D: 3}, api.Ratio{}, api.ErrOver},
	})
	checkExact(t, "Add", Add, func(a, b *big.Rat) *big.Rat { return new(big.Rat).Add(a, b) })
}

func TestSub(t *testing.T) {
	checkTold(t, "Sub", Sub, []told{
		{api.Ratio{N: 1, D: 2}, api.Ratio{N: 1, D: 3}, api.Ratio{N: 1, D: 6}, api.OK},
		{api.Ratio{N: 1, D: 3}, api.Ratio{N: 1, D: 2}, api.Ratio{N: -1, D: 6}, api.OK},
		{api.Ratio{N: 5, D: 6}, api.Ratio{N: -1, D: 6}, by1(1), api.OK},
		{api.Ratio{N: 5, D: 7}, api.Ratio{N: 5, D: 7}, by1(0), api.OK},
		{by1(0), by1(most), by1(-most), api.OK},
		{by1(-1), by1(most), by1(least), api.OK},
		{by1(-1), by1(least), by1(most), api.OK},
		{by1(least), by1(least), by1(0), api.OK},
		{api.Ratio{N: least, D: most}, api.Ratio{N: least, D: most}, by1(0), api.OK},
		{api.Ratio{N: most, D: 2}, api.Ratio{N: -most, D: 2}, by1(most), api.OK},
		{api.Ratio{N: -1, D: 3}, api.Ratio{N: least, D: 3}, api.Ratio{N: most, D: 3}, api.OK},
		{by1(0), by1(least), api.Ratio{}, api.ErrOver},
		{api.Ratio{N: 1, D: 2}, by1(least), api.Ratio{}, api.ErrOver},
		{by1(-2), by1(most), api.Ratio{}, api.ErrOver},
		{by1(most), by1(-1), api.Ratio{}, api.ErrOver},
		{by1(most), by1(least), api.Ratio{}, api.ErrOver},
		{api.Ratio{N: 1, D: most}, api.Ratio{N: 1, D: most - 1}, api.Ratio{}, api.ErrOver},
	})
	checkExact(t, "Sub", Sub, func(a, b *big.Rat) *big.Rat { return new(big.Rat).Sub(a, b) })
}

func TestMul(t *testing.T) {
	checkTold(t, "Mul", Mul, []told{
		{api.Ratio{N: 2, D: 3}, api.Ratio{N: -9, D: 4}, api.Ratio{N: -3, D: 2}, api.OK},
		{api.Ratio{N: -2, D: 3}, api.Ratio{N: -3, D: 2}, by1(1), api.OK},
		{api.Ratio{N: 1, D: 2}, api.Ratio{N: 1, D: 3}, api.Ratio{N: 1, D: 6}, api.OK},
		{by1(0), by1(0), by1(0), api.OK},
		{by1(0), api.Ratio{N: least, D: most}, by1(0), api.OK},
		{api.Ratio{N: -3, D: most}, by1(0), by1(0), api.OK},
		{by1(1), api.Ratio{N: least, D: most}, api.Ratio{N: least, D: most}, api.OK},
		{by1(-1), by1(most), by1(-most), api.OK},
		{by1(1 << 31), by1(-1 << 32), by1(least), api.OK},
		// The products do not fit on the way, but the ratio does.
		{by1(most), api.Ratio{N: 1, D: most}, by1(1), api.OK},
		{api.Ratio{N: most - 1, D: most}, api.Ratio{N: most, D: most - 1}, by1(1), api.OK},
		{api.Ratio{N: least, D: most}, by1(most), by1(least), api.OK},
		{api.Ratio{N: least, D: most}, by1(-most), api.Ratio{}, api.ErrOver},
		{by1(least), api.Ratio{N: -1, D: 2}, by1(1 << 62), api.OK},
		{by1(least), api.Ratio{N: 3, D: 1 << 62}, by1(-6), api.OK},
		{by1(least), api.Ratio{N: -1, D: 3}, api.Ratio{}, api.ErrOver},
		{api.Ratio{N: 1, D: 49}, api.Ratio{N: -1, D: 188232082384791343}, api.Ratio{N: -1, D: most}, api.OK},
		// By one, too great.
		{by1(1 << 31), by1(1 << 32), api.Ratio{}, api.ErrOver},
		{by1(least), by1(-1), api.Ratio{}, api.ErrOver},
		{by1(-1), by1(least), api.Ratio{}, api.ErrOver},
		{by1(most), by1(2), api.Ratio{}, api.ErrOver},
		{by1(least), by1(least), api.Ratio{}, api.ErrOver},
		{api.Ratio{N: 1, D: 1 << 31}, api.Ratio{N: 1, D: 1 << 32}, api.Ratio{}, api.ErrOver},
		{api.Ratio{N: 1, D: 1 << 31}, api.Ratio{N: 1, D: 1 << 31}, api.Ratio{N: 1, D: 1 << 62}, api.OK},
		{api.Ratio{N: 1, D: most}, api.Ratio{N: 1, D: 2}, api.Ratio{}, api.ErrOver},
	})
	checkExact(t, "Mul", Mul, func(a, b *big.Rat) *big.Rat { return new(big.Rat).Mul(a, b) })
}

func TestDiv(t *testing.T) {
	checkTold(t, "Div", Div, []told{
		{api.Ratio{N: 2, D: 3}, api.Ratio{N: -4, D: 9}, api.Ratio{N: -3, D: 2}, api.OK},
		{api.Ratio{N: -2, D: 3}, api.Ratio{N: -2, D: 3}, by1(1), api.OK},
		{by1(1), api.Ratio{N: 2, D: 3}, api.Ratio{N: 3, D: 2}, api.OK},
		{by1(1), by1(-7), api.Ratio{N: -1, D: 7}, api.OK},
		{by1(0), by1(least), by1(0), api.OK},
		{by1(0), api.Ratio{N: -5, D: 3}, by1(0), api.OK},
		{by1(most), by1(-1), by1(-most), api.OK},
		{by1(least), by1(1), by1(least), api.OK},
		// The products do not fit on the way, or an opposite does not, but the ratio does.
		{by1(least), by1(least), by1(1), api.OK},
		{by1(least), by1(-2), by1(1 << 62), api.OK},
		{by1(6), by1(least), api.Ratio{N: -3, D: 1 << 62}, api.OK},
		{by1(2), api.Ratio{N: least, D: most}, api.Ratio{N: -most, D: 1 << 62}, api.OK},
		{api.Ratio{N: least, D: most}, api.Ratio{N: least, D: most}, by1(1), api.OK},
		{api.Ratio{N: least, D: 3}, api.Ratio{N: least, D: 9}, by1(3), api.OK},
		{api.Ratio{N: 1, D: most}, api.Ratio{N: 1, D: most}, by1(1), api.OK},
		{by1(1), api.Ratio{N: -1, D: most}, by1(-most), api.OK},
		{api.Ratio{N: 1, D: 49}, by1(188232082384791343), api.Ratio{N: 1, D: most}, api.OK},
		// By one, too great.
		{by1(least), by1(-1), api.Ratio{}, api.ErrOver},
		{by1(1), by1(least), api.Ratio{}, api.ErrOver},
		{by1(-1), by1(least), api.Ratio{}, api.ErrOver},
		{by1(1), api.Ratio{N: least, D: most}, api.Ratio{}, api.ErrOver},
		{by1(2), api.Ratio{N: 1, D: most}, api.Ratio{}, api.ErrOver},
		{api.Ratio{N: 1, D: most}, by1(2), api.Ratio{}, api.ErrOver},
		{by1(-1 << 62), api.Ratio{N: -1, D: 2}, api.Ratio{}, api.ErrOver},
		{by1(-1 << 62), api.Ratio{N: 1, D: 2}, by1(least), api.OK},
		// By 0.
		{by1(1), by1(0), api.Ratio{}, api.ErrZero},
		{by1(0), by1(0), api.Ratio{}, api.ErrZero},
		{by1(most), by1(0), api.Ratio{}, api.ErrZero},
		{api.Ratio{N: least, D: most}, by1(0), api.Ratio{}, api.ErrZero},
	})
	checkExact(t, "Div", Div, func(a, b *big.Rat) *big.Rat { return new(big.Rat).Quo(a, b) })
}

// TestCountRefuses hands in what may not be on either side; that comes ahead of a divisor of 0, and of what is too great.
func TestCountRefuses(t *testing.T) {
	for name, how := range map[string]call{"Add": Add, "Sub": Sub, "Mul": Mul, "Div": Div} {
		for _, a := range wrong {
			for _, b := range append(wrong, by1(0), by1(1), by1(most), by1(least), api.Ratio{N: -3, D: 2}) {
				checkTold(t, name, how, []told{{a, b, api.Ratio{}, api.ErrArg}, {b, a, api.Ratio{}, api.ErrArg}})
			}
		}
	}
}

// P3.3

func TestCmp(t *testing.T) {
	for _, x := range []struct {
		a, b api.Ratio
		n    int
	}{
		{api.Ratio{N: 1, D: 3}, api.Ratio{N: 1, D: 2}, -1},
		{api.Ratio{N: 1, D: 2}, api.Ratio{N: 1, D: 3}, 1},
		{api.Ratio{N: -1, D: 3}, api.Ratio{N: -1, D: 2}, 1},
		{api.Ratio{N: -1, D: 2}, api.Ratio{N: 1, D: 2}, -1},
		{by1(0), by1(0), 0},
		{by1(0), api.Ratio{N: 1, D: most}, -1},
		{by1(0), api.Ratio{N: -1, D: most}, 1},
		{by1(most), by1(most), 0},
		{by1(least), by1(most), -1},
		{by1(least), by1(least), 0},
		{api.Ratio{N: most - 1, D: most}, api.Ratio{N: most - 2, D: most - 1}, 1},
		{api.Ratio{N: 1, D: most}, api.Ratio{N: 1, D: most - 1}, -1},
		{api.Ratio{N: least, D: most}, by1(-1), -1},
		{api.Ratio{N: least, D: most}, api.Ratio{N: -most, D: most - 1}, 1},
	} {
		if n, e := Cmp(x.a, x.b); n != x.n || e != api.OK {
			t.Errorf("Cmp(%v, %v): got %d, %d, want %d", x.a, x.b, n, e, x.n)
		}
	}
	l := ratios()
	for _, a := range l {
		for _, b := range l {
			want := exact(a).Cmp(exact(b))
			if n, e := Cmp(a, b); n != want || e != api.OK {
				t.Errorf("Cmp(%v, %v): got %d, %d, want %d", a, b, n, e, want)
			}
		}
	}
}

func TestCmpRefuses(t *testing.T) {
	for _, a := range wrong {
		for _, b := range append(wrong, by1(0), by1(1), by1(most), by1(least)) {
			if n, e := Cmp(a, b); n != 0 || e != api.ErrArg {
				t.Errorf("Cmp(%v, %v): got %d, %d, want error %d", a, b, n, e, api.ErrArg)
			}
			if n, e := Cmp(b, a); n != 0 || e != api.ErrArg {
				t.Errorf("Cmp(%v, %v): got %d, %d, want error %d", b, a, n, e, api.ErrArg)
			}
		}
	}
}

func TestFloorAndCeil(t *testing.T) {
	for _, x := range []struct {
		a           api.Ratio
		floor, ceil int64
	}{
		{api.Ratio{N: 7, D: 2}, 3, 4},
		{api.Ratio{N: -7, D: 2}, -4, -3},
		{api.Ratio{N: -3, D: 2}, -2, -1},
		{api.Ratio{N: 1, D: 3}, 0, 1},
		{api.Ratio{N: -1, D: 3}, -1, 0},
		{by1(0), 0, 0},
		{by1(5), 5, 5},
		{by1(-5), -5, -5},
		{by1(most), most, most},
		{by1(least), least, least},
		{api.Ratio{N: most, D: 2}, 1<<62 - 1, 1 << 62},
		{api.Ratio{N: -most, D: 2}, -1 << 62, -1<<62 + 1},
		{api.Ratio{N: least, D: 3}, -3074457345618258603, -3074457345618258602},
		{api.Ratio{N: least, D: most}, -2, -1},
		{api.Ratio{N: 1, D: most}, 0, 1},
		{api.Ratio{N: -1, D: most}, -1, 0},
		{api.Ratio{N: most - 1, D: most}, 0, 1},
		{api.Ratio{N: most, D: most - 1}, 1, 2},
	} {
		if n, e := Floor(x.a); n != x.floor || e != api.OK {
			t.Errorf("Floor(%v): got %d, %d, want %d", x.a, n, e, x.floor)
		}
		if n, e := Ceil(x.a); n != x.ceil || e != api.OK {
			t.Errorf("Ceil(%v): got %d, %d, want %d", x.a, n, e, x.ceil)
		}
	}
}

// TestFloorAndCeilAreNearest holds them against the ratio itself: no whole number lies between it and them.
func TestFloorAndCeilAreNearest(t *testing.T) {
	one := big.NewRat(1, 1)
	for _, a := range ratios() {
		low, e := Floor(a)
		high, f := Ceil(a)
		if e != api.OK || f != api.OK {
			t.Errorf("Floor, Ceil of %v: got errors %d, %d", a, e, f)
		}
		below := new(big.Rat).Sub(exact(a), exact(by1(low)))
		if below.Sign() < 0 || below.Cmp(one) >= 0 {
			t.Errorf("Floor(%v): got %d", a, low)
		}
		above := new(big.Rat).Sub(exact(by1(high)), exact(a))
		if above.Sign() < 0 || above.Cmp(one) >= 0 {
			t.Errorf("Ceil(%v): got %d", a, high)
		}
	}
}

func TestFloorAndCeilRefuse(t *testing.T) {
	for _, a := range wrong {
		if n, e := Floor(a); n != 0 || e != api.ErrArg {
			t.Errorf("Floor(%v): got %d, %d, want error %d", a, n, e, api.ErrArg)
		}
		if n, e := Ceil(a); n != 0 || e != api.ErrArg {
			t.Errorf("Ceil(%v): got %d, %d, want error %d", a, n, e, api.ErrArg)
		}
	}
}

// P3.4

// TestSameNumberIsSameRatio comes to one number by several ways, and must find one ratio, which may be.
func TestSameNumberIsSameRatio(t *testing.T) {
	l := ratios()
	for _, a := range l {
		for _, b := range l {
			checkSame(t, a, b)
		}
	}
}

func checkSame(t *testing.T, a, b api.Ratio) {
	t.Helper()
	sum, e := Add(a, b)
	if other, f := Add(b, a); other != sum || f != e {
		t.Errorf("Add(%v, %v): got %v, %d, but %v, %d the other way", a, b, sum, e, other, f)
	}
	if e == api.OK {
		checkMayBe(t, sum)
		if back, f := Sub(sum, b); back != a || f != api.OK {
			t.Errorf("Sub(%v, %v): got %v, %d, want %v", sum, b, back, f, a)
		}
	}
	product, e := Mul(a, b)
	if other, f := Mul(b, a); other != product || f != e {
		t.Errorf("Mul(%v, %v): got %v, %d, but %v, %d the other way", a, b, product, e, other, f)
	}
	if e == api.OK {
		checkMayBe(t, product)
		if back, f := Div(product, b); b.N != 0 && (back != a || f != api.OK) {
			t.Errorf("Div(%v, %v): got %v, %d, want %v", product, b, back, f, a)
		}
	}
	if n, e := Cmp(a, b); e != api.OK || (n == 0) != (a == b) {
		t.Errorf("Cmp(%v, %v): got %d, %d", a, b, n, e)
	}
}

func checkMayBe(t *testing.T, a api.Ratio) {
	t.Helper()
	if a.D <= 0 || !inLowestTerms(a.N, a.D) || Check(a) != api.OK {
		t.Errorf("got %v, which may not be", a)
	}
}

// TestMakeOfMultiples makes one ratio of itself times whatever.
func TestMakeOfMultiples(t *testing.T) {
	for _, a := range []api.Ratio{{N: 3, D: 2}, {N: -3, D: 2}, {N: 0, D: 1}, {N: 1, D: 1}, {N: -1, D: 7}, {N: 1 << 31, D: 3}, {N: -5, D: 1 << 31}} {
		for _, k := range []int64{-1 << 31, -12, -7, -2, -1, 1, 2, 3, 49, 1<<31 - 1} {
			if r, e := Make(a.N*k, a.D*k); r != a || e != api.OK {
				t.Errorf("Make(%d, %d): got %v, %d, want %v", a.N*k, a.D*k, r, e, a)
			}
		}
	}
}
