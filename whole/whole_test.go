package whole

import (
	"math/big"
	"testing"

	"quarterday/api"
)

const most = 1<<63 - 1

// edges are the numbers at which 64 bits, or a root of them, are just enough or just too few, and small ones of both signs.
var edges = []int64{
	least, least + 1, least + 2, -1 << 62, -1<<62 - 1, -6074001000, -1 << 32, -3037000500, -3037000499, -1 << 31,
	-12, -7, -6, -3, -2, -1, 0, 1, 2, 3, 6, 7, 12,
	1 << 31, 3037000499, 3037000500, 1 << 32, 6074001000, 1 << 62, 1<<62 + 1, most - 2, most - 1, most,
}

// numbers are the edges and others spread between them, by a fixed rule.
func numbers() []int64 {
	l := append([]int64{}, edges...)
	state := uint64(1)
	for i := range 120 {
		state = state*6364136223846793005 + 1442695040888963407
		l = append(l, int64(state)>>(i%60))
	}
	return l
}

// eachPair hands each two of the numbers on.
func eachPair(do func(a, b int64)) {
	l := numbers()
	for _, a := range l {
		for _, b := range l {
			do(a, b)
		}
	}
}

// fitting is what a call must tell whose answer is n.
func fitting(n *big.Int) (int64, api.Errno) {
	if !n.IsInt64() {
		return 0, api.ErrOver
	}
	return n.Int64(), api.OK
}

// calls are those of two numbers and one answer.
var calls = map[string]func(a, b int64) (int64, api.Errno){"Add": Add, "Sub": Sub, "Mul": Mul, "Gcd": Gcd}

// exact are the same, of numbers without bounds.
var exact = map[string]func(a, b *big.Int) *big.Int{
	"Add": func(a, b *big.Int) *big.Int { return new(big.Int).Add(a, b) },
	"Sub": func(a, b *big.Int) *big.Int { return new(big.Int).Sub(a, b) },
	"Mul": func(a, b *big.Int) *big.Int { return new(big.Int).Mul(a, b) },
	"Gcd": func(a, b *big.Int) *big.Int { return new(big.Int).GCD(nil, nil, a, b) },
}

// told is a call of two numbers, and what it must tell.
type told struct {
	a, b, n int64
	e       api.Errno
}

func checkTold(t *testing.T, name string, l []told) {
	t.Helper()
	for _, x := range l {
		if n, e := calls[name](x.a, x.b); n != x.n || e != x.e {
			t.Errorf("%s(%d, %d): got %d, %d, want %d, %d", name, x.a, x.b, n, e, x.n, x.e)
		}
	}
}

// checkExact holds a call against the same one of numbers without bounds.
func checkExact(t *testing.T, name string) {
	t.Helper()
	eachPair(func(a, b int64) {
		want, wantError := fitting(exact[name](big.NewInt(a), big.NewInt(b)))
		if n, e := calls[name](a, b); n != want || e != wantError {
			t.Errorf("%s(%d, %d): got %d, %d, want %d, %d", name, a, b, n, e, want, wantError)
		}
	})
}

// P1.1

func TestAdd(t *testing.T) {
	checkTold(t, "Add", []told{
		{2, 3, 5, api.OK},
		{-2, 3, 1, api.OK},
		{0, 0, 0, api.OK},
		{most, 0, most, api.OK},
		{0, least, least, api.OK},
		{most, least, -1, api.OK},
		{least, most, -1, api.OK},
		{most - 1, 1, most, api.OK},
		{least + 1, -1, least, api.OK},
		{most, 1, 0, api.ErrOver},
		{1, most, 0, api.ErrOver},
		{most, most, 0, api.ErrOver},
		{least, -1, 0, api.ErrOver},
		{-1, least, 0, api.ErrOver},
		{least, least, 0, api.ErrOver},
	})
	checkExact(t, "Add")
}

func TestSub(t *testing.T) {
	checkTold(t, "Sub", []told{
		{2, 3, -1, api.OK},
		{-2, -3, 1, api.OK},
		{most, 0, most, api.OK},
		{least, 0, least, api.OK},
		{least, least, 0, api.OK},
		{most, most, 0, api.OK},
		{-1, least, most, api.OK},
		{-1, most, least, api.OK},
		{0, most, -most, api.OK},
		{0, least, 0, api.ErrOver},
		{most, -1, 0, api.ErrOver},
		{least, 1, 0, api.ErrOver},
		{-2, most, 0, api.ErrOver},
		{most, least, 0, api.ErrOver},
		{least, most, 0, api.ErrOver},
	})
	checkExact(t, "Sub")
}

func TestMul(t *testing.T) {
	checkTold(t, "Mul", []told{
		{6, 7, 42, api.OK},
		{-6, 7, -42, api.OK},
		{-6, -7, 42, api.OK},
		{0, least, 0, api.OK},
		{least, 0, 0, api.OK},
		{least, 1, least, api.OK},
		{1, least, least, api.OK},
		{most, -1, -most, api.OK},
		{-1, most, -most, api.OK},
		{1 << 31, -1 << 32, least, api.OK},
		{3037000499, 3037000499, 9223372030926249001, api.OK},
		{3037000500, 3037000500, 0, api.ErrOver},
		{least, -1, 0, api.ErrOver},
		{-1, least, 0, api.ErrOver},
		{1 << 31, 1 << 32, 0, api.ErrOver},
		{1 << 32, 1 << 32, 0, api.ErrOver},
		{least, 2, 0, api.ErrOver},
		{2, least, 0, api.ErrOver},
		{least, least, 0, api.ErrOver},
		{most, most, 0, api.ErrOver},
	})
	checkExact(t, "Mul")
}

func TestNeg(t *testing.T) {
	for _, x := range []struct {
		a, n int64
		e    api.Errno
	}{
		{5, -5, api.OK},
		{-5, 5, api.OK},
		{0, 0, api.OK},
		{most, -most, api.OK},
		{-most, most, api.OK},
		{least, 0, api.ErrOver},
	} {
		if n, e := Neg(x.a); n != x.n || e != x.e {
			t.Errorf("Neg(%d): got %d, %d, want %d, %d", x.a, n, e, x.n, x.e)
		}
	}
	for _, a := range numbers() {
		want, wantError := fitting(new(big.Int).Neg(big.NewInt(a)))
		if n, e := Neg(a); n != want || e != wantError {
			t.Errorf("Neg(%d): got %d, %d, want %d, %d", a, n, e, want, wantError)
		}
	}
}

// P1.2

func TestDiv(t *testing.T) {
	for _, x := range []struct {
		a, b, q, r int64
		e          api.Errno
	}{
		{-7, 2, -4, 1, api.OK},
		{7, 2, 3, 1, api.OK},
		{7, -2, -4, -1, api.OK},
		{-7, -2, 3, -1, api.OK},
		{6, 2, 3, 0, api.OK},
		{-6, 2, -3, 0, api.OK},
		{6, -2, -3, 0, api.OK},
		{-6, -2, 3, 0, api.OK},
		{1, 7, 0, 1, api.OK},
		{-1, 7, -1, 6, api.OK},
		{1, -7, -1, -6, api.OK},
		{-1, -7, 0, -1, api.OK},
		{0, 7, 0, 0, api.OK},
		{0, least, 0, 0, api.OK},
		{least, 1, least, 0, api.OK},
		{least, 2, -1 << 62, 0, api.OK},
		{least, least, 1, 0, api.OK},
		{least, most, -2, most - 1, api.OK},
		{most, least, -1, -1, api.OK},
		{most, -1, -most, 0, api.OK},
		{-1, most, -1, most - 1, api.OK},
		{1, least, -1, least + 1, api.OK},
		{least, -1, 0, 0, api.ErrOver},
		{7, 0, 0, 0, api.ErrZero},
		{0, 0, 0, 0, api.ErrZero},
		{least, 0, 0, 0, api.ErrZero},
	} {
		if q, r, e := Div(x.a, x.b); q != x.q || r != x.r || e != x.e {
			t.Errorf("Div(%d, %d): got %d, %d, %d, want %d, %d, %d", x.a, x.b, q, r, e, x.q, x.r, x.e)
		}
	}
}

// TestDivIsGreatest holds q against the fraction itself: q times b lies on that side of a on which q is not above, and one more does not.
func TestDivIsGreatest(t *testing.T) {
	eachPair(func(a, b int64) {
		q, _, e := Div(a, b)
		if e != api.OK {
			return
		}
		q1 := new(big.Int).Add(big.NewInt(q), big.NewInt(1))
		if above(big.NewInt(q), a, b) || !above(q1, a, b) {
			t.Errorf("Div(%d, %d): got %d", a, b, q)
		}
	})
}

// above tells whether q is above a divided by b.
func above(q *big.Int, a, b int64) bool {
	product := new(big.Int).Mul(q, big.NewInt(b))
	if b < 0 {
		return product.Cmp(big.NewInt(a)) < 0
	}
	return product.Cmp(big.NewInt(a)) > 0
}

func TestDivRefuses(t *testing.T) {
	eachPair(func(a, b int64) {
		want := api.OK
		if b == 0 {
			want = api.ErrZero
		} else if a == least && b == -1 {
			want = api.ErrOver
		}
		q, r, e := Div(a, b)
		if e != want {
			t.Errorf("Div(%d, %d): got error %d, want %d", a, b, e, want)
		}
		if e != api.OK && (q != 0 || r != 0) {
			t.Errorf("Div(%d, %d): got %d, %d beside error %d", a, b, q, r, e)
		}
	})
}

// P1.3

func TestGcd(t *testing.T) {
	checkTold(t, "Gcd", []told{
		{12, 18, 6, api.OK},
		{12, -18, 6, api.OK},
		{-12, 18, 6, api.OK},
		{-12, -18, 6, api.OK},
		{7, 12, 1, api.OK},
		{0, 0, 0, api.OK},
		{0, 5, 5, api.OK},
		{-5, 0, 5, api.OK},
		{-1, least, 1, api.OK},
		{least, -1, 1, api.OK},
		{least, 6, 2, api.OK},
		{6, least, 2, api.OK},
		{least, -1 << 62, 1 << 62, api.OK},
		{least, most, 1, api.OK},
		{most, -most, most, api.OK},
		{least, 0, 0, api.ErrOver},
		{0, least, 0, api.ErrOver},
		{least, least, 0, api.ErrOver},
	})
	checkExact(t, "Gcd")
}

// P1.4

func TestDivAndRemainder(t *testing.T) {
	eachPair(func(a, b int64) {
		q, r, e := Div(a, b)
		if e != api.OK {
			return
		}
		sum := new(big.Int).Mul(big.NewInt(q), big.NewInt(b))
		sum.Add(sum, big.NewInt(r))
		if sum.Cmp(big.NewInt(a)) != 0 {
			t.Errorf("Div(%d, %d): got %d, %d, which are %s", a, b, q, r, sum)
		}
		if r == 0 {
			return
		}
		if (r < 0) != (b < 0) {
			t.Errorf("Div(%d, %d): got %d left over, which has not the sign of b", a, b, r)
		}
		if big.NewInt(r).CmpAbs(big.NewInt(b)) >= 0 {
			t.Errorf("Div(%d, %d): got %d left over, which is not nearer to 0 than b", a, b, r)
		}
	})
}
