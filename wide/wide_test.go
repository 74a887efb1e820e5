package wide

import (
	"math/big"
	"slices"
	"testing"

	"quarterday/api"
)

const (
	least  = -1 << 63
	most   = 1<<63 - 1
	filled = 1<<64 - 1
)

// lowest and highest are the Wides beyond which there is none.
var (
	lowest  = api.Wide{Hi: least}
	highest = api.Wide{Hi: most, Lo: filled}
)

// edges are the numbers at which 64 bits, or a half of them, are just enough or just too few, and small ones of both signs.
var edges = []int64{
	least, least + 1, -1 << 62, -1<<32 - 1, -1 << 32, -1<<32 + 1, -1 << 31, -10, -7, -3, -2, -1,
	0, 1, 2, 3, 7, 10, 1 << 31, 1<<32 - 1, 1 << 32, 1<<32 + 1, 1 << 62, most - 1, most,
}

// spread tells n words that lie anywhere, by a fixed rule.
func spread(n int) []uint64 {
	var l []uint64
	state := uint64(1)
	for i := range n {
		state = state*6364136223846793005 + 1442695040888963407
		l = append(l, (state^state>>29)>>(i%64))
	}
	return l
}

// numbers are the edges and others spread between them.
func numbers() []int64 {
	l := slices.Clone(edges)
	for i, n := range spread(130) {
		if i%2 == 0 {
			l = append(l, int64(n))
		} else {
			l = append(l, -int64(n))
		}
	}
	return l
}

// wides are all that can be made of the words at the edges, and others spread between them.
func wides() []api.Wide {
	var l []api.Wide
	for _, hi := range []int64{least, least + 1, -1 << 32, -2, -1, 0, 1, 1 << 32, most - 1, most} {
		for _, lo := range []uint64{0, 1, 1<<32 - 1, 1 << 32, most, 1 << 63, 1<<63 + 1, filled - 1, filled} {
			l = append(l, api.Wide{Hi: hi, Lo: lo})
		}
	}
	words := spread(160)
	for i := 0; i < len(words); i += 2 {
		l = append(l, api.Wide{Hi: int64(words[i]), Lo: words[i+1]}, api.Wide{Hi: -int64(words[i]), Lo: words[i+1]})
	}
	return l
}

// exact is a as a number without bounds.
func exact(a api.Wide) *big.Int {
	n := new(big.Int).Lsh(big.NewInt(a.Hi), 64)
	return n.Add(n, new(big.Int).SetUint64(a.Lo))
}

// fitting is what a call must tell whose answer is n.
func fitting(n *big.Int) (api.Wide, api.Errno) {
	if n.Cmp(exact(lowest)) < 0 || n.Cmp(exact(highest)) > 0 {
		return api.Wide{}, api.ErrOver
	}
	// The shift, as the remainder, goes down below 0, too.
	hi := new(big.Int).Rsh(n, 64)
	lo := new(big.Int).Sub(n, new(big.Int).Lsh(hi, 64))
	return api.Wide{Hi: hi.Int64(), Lo: lo.Uint64()}, api.OK
}

// fitting64 is the same for a call that tells 64 bits.
func fitting64(n *big.Int) (int64, api.Errno) {
	if !n.IsInt64() {
		return 0, api.ErrOver
	}
	return n.Int64(), api.OK
}

// P2.1

func TestOf(t *testing.T) {
	for _, x := range []struct {
		a int64
		w api.Wide
	}{
		{0, api.Wide{}},
		{1, api.Wide{Lo: 1}},
		{-1, api.Wide{Hi: -1, Lo: filled}},
		{-7, api.Wide{Hi: -1, Lo: filled - 6}},
		{1 << 32, api.Wide{Lo: 1 << 32}},
		{most, api.Wide{Lo: most}},
		{least, api.Wide{Hi: -1, Lo: 1 << 63}},
		{least + 1, api.Wide{Hi: -1, Lo: 1<<63 + 1}},
	} {
		if w := Of(x.a); w != x.w {
			t.Errorf("Of(%d): got %v, want %v", x.a, w, x.w)
		}
	}
	for _, a := range numbers() {
		if n := exact(Of(a)); n.Cmp(big.NewInt(a)) != 0 {
			t.Errorf("Of(%d): got %s", a, n)
		}
	}
}

func TestFit(t *testing.T) {
	for _, x := range []struct {
		a api.Wide
		n int64
		e api.Errno
	}{
		{api.Wide{}, 0, api.OK},
		{api.Wide{Lo: 5}, 5, api.OK},
		{api.Wide{Hi: -1, Lo: filled}, -1, api.OK},
		{api.Wide{Lo: most}, most, api.OK},
		{api.Wide{Hi: -1, Lo: 1 << 63}, least, api.OK},
		{api.Wide{Lo: 1 << 63}, 0, api.ErrOver},
		{api.Wide{Hi: -1, Lo: most}, 0, api.ErrOver},
		{api.Wide{Lo: filled}, 0, api.ErrOver},
		{api.Wide{Hi: 1}, 0, api.ErrOver},
		{api.Wide{Hi: 1, Lo: 5}, 0, api.ErrOver},
		{api.Wide{Hi: -1}, 0, api.ErrOver},
		{api.Wide{Hi: -2, Lo: filled}, 0, api.ErrOver},
		{lowest, 0, api.ErrOver},
		{highest, 0, api.ErrOver},
	} {
		if n, e := Fit(x.a); n != x.n || e != x.e {
			t.Errorf("Fit(%v): got %d, %d, want %d, %d", x.a, n, e, x.n, x.e)
		}
	}
	for _, a := range wides() {
		want, wantError := fitting64(exact(a))
		if n, e := Fit(a); n != want || e != wantError {
			t.Errorf("Fit(%v): got %d, %d, want %d, %d", a, n, e, want, wantError)
		}
	}
}

// P2.2

func TestAdd(t *testing.T) {
	for _, x := range []struct {
		a, b, w api.Wide
		e       api.Errno
	}{
		{Of(2), Of(3), Of(5), api.OK},
		{Of(-5), Of(3), Of(-2), api.OK},
		{Of(-5), Of(5), Of(0), api.OK},
		{Of(most), Of(1), api.Wide{Lo: 1 << 63}, api.OK},
		{Of(least), Of(-1), api.Wide{Hi: -1, Lo: most}, api.OK},
		{Of(least), Of(least), api.Wide{Hi: -1}, api.OK},
		{api.Wide{Lo: filled}, Of(1), api.Wide{Hi: 1}, api.OK},
		{api.Wide{Lo: filled}, api.Wide{Lo: filled}, api.Wide{Hi: 1, Lo: filled - 1}, api.OK},
		{api.Wide{Hi: 1}, Of(-1), api.Wide{Lo: filled}, api.OK},
		{api.Wide{Hi: -1}, Of(-1), api.Wide{Hi: -2, Lo: filled}, api.OK},
		{highest, Of(0), highest, api.OK},
		{lowest, Of(0), lowest, api.OK},
		{lowest, highest, Of(-1), api.OK},
		{highest, lowest, Of(-1), api.OK},
		{highest, Of(-1), api.Wide{Hi: most, Lo: filled - 1}, api.OK},
		{lowest, Of(1), api.Wide{Hi: least, Lo: 1}, api.OK},
		// The high words alone are too many here, but not with what the low ones bring along.
		{api.Wide{Hi: least, Lo: filled}, Of(-1), api.Wide{Hi: least, Lo: filled - 1}, api.OK},
		{api.Wide{Hi: most}, api.Wide{Lo: filled}, highest, api.OK},
		{highest, Of(1), api.Wide{}, api.ErrOver},
		{Of(1), highest, api.Wide{}, api.ErrOver},
		{api.Wide{Hi: most, Lo: 1}, api.Wide{Lo: filled}, api.Wide{}, api.ErrOver},
		{highest, highest, api.Wide{}, api.ErrOver},
		{lowest, Of(-1), api.Wide{}, api.ErrOver},
		{Of(-1), lowest, api.Wide{}, api.ErrOver},
		{lowest, lowest, api.Wide{}, api.ErrOver},
	} {
		if w, e := Add(x.a, x.b); w != x.w || e != x.e {
			t.Errorf("Add(%v, %v): got %v, %d, want %v, %d", x.a, x.b, w, e, x.w, x.e)
		}
	}
}

func TestNeg(t *testing.T) {
	for _, x := range []struct {
		a, w api.Wide
		e    api.Errno
	}{
		{Of(0), Of(0), api.OK},
		{Of(5), Of(-5), api.OK},
		{Of(-1), Of(1), api.OK},
		{Of(most), Of(-most), api.OK},
		{Of(least), api.Wide{Lo: 1 << 63}, api.OK},
		{api.Wide{Lo: filled}, api.Wide{Hi: -1, Lo: 1}, api.OK},
		{api.Wide{Hi: 1}, api.Wide{Hi: -1}, api.OK},
		{api.Wide{Hi: -1}, api.Wide{Hi: 1}, api.OK},
		{highest, api.Wide{Hi: least, Lo: 1}, api.OK},
		{api.Wide{Hi: least, Lo: 1}, highest, api.OK},
		{lowest, api.Wide{}, api.ErrOver},
	} {
		if w, e := Neg(x.a); w != x.w || e != x.e {
			t.Errorf("Neg(%v): got %v, %d, want %v, %d", x.a, w, e, x.w, x.e)
		}
	}
	for _, a := range wides() {
		want, wantError := fitting(new(big.Int).Neg(exact(a)))
		if w, e := Neg(a); w != want || e != wantError {
			t.Errorf("Neg(%v): got %v, %d, want %v, %d", a, w, e, want, wantError)
		}
	}
}

func TestCmp(t *testing.T) {
	// ordered goes up.
	ordered := []api.Wide{
		lowest, {Hi: least, Lo: 1}, {Hi: least, Lo: filled}, {Hi: -2, Lo: filled}, {Hi: -1}, {Hi: -1, Lo: most},
		Of(least), Of(-7), Of(-1), Of(0), Of(1), Of(most), {Lo: 1 << 63}, {Lo: filled}, {Hi: 1}, {Hi: 1, Lo: 1},
		{Hi: most}, {Hi: most, Lo: filled - 1}, highest,
	}
	for i, a := range ordered {
		for j, b := range ordered {
			want := 0
			if i < j {
				want = -1
			} else if i > j {
				want = 1
			}
			if n := Cmp(a, b); n != want {
				t.Errorf("Cmp(%v, %v): got %d, want %d", a, b, n, want)
			}
		}
	}
}

// P2.3

func TestMul(t *testing.T) {
	for _, x := range []struct {
		a, b int64
		w    api.Wide
	}{
		{0, 0, api.Wide{}},
		{0, least, api.Wide{}},
		{-1, 0, api.Wide{}},
		{6, 7, Of(42)},
		{-3, 5, Of(-15)},
		{3, -5, Of(-15)},
		{-3, -5, Of(15)},
		{-1, -1, Of(1)},
		{least, 1, Of(least)},
		{least, -1, api.Wide{Lo: 1 << 63}},
		{-1, least, api.Wide{Lo: 1 << 63}},
		{most, -1, Of(-most)},
		{least, 2, api.Wide{Hi: -1}},
		{least, -2, api.Wide{Hi: 1}},
		{1 << 32, 1 << 32, api.Wide{Hi: 1}},
		{1 << 32, -1 << 32, api.Wide{Hi: -1}},
		{1<<32 - 1, 1<<32 + 1, api.Wide{Lo: filled}},
		{1<<32 - 1, -1<<32 - 1, api.Wide{Hi: -1, Lo: 1}},
		{least, least, api.Wide{Hi: 1 << 62}},
		{least, most, api.Wide{Hi: -1 << 62, Lo: 1 << 63}},
		{most, most, api.Wide{Hi: 1<<62 - 1, Lo: 1}},
		{most, -most, api.Wide{Hi: -1 << 62, Lo: filled}},
	} {
		if w := Mul(x.a, x.b); w != x.w {
			t.Errorf("Mul(%d, %d): got %v, want %v", x.a, x.b, w, x.w)
		}
	}
	for _, a := range numbers() {
		for _, b := range numbers() {
			want := new(big.Int).Mul(big.NewInt(a), big.NewInt(b))
			if n := exact(Mul(a, b)); n.Cmp(want) != 0 {
				t.Errorf("Mul(%d, %d): got %s, want %s", a, b, n, want)
			}
		}
	}
}

func TestDiv(t *testing.T) {
	for _, x := range []struct {
		a api.Wide
		b int64
		q api.Wide
		r int64
	}{
		{Of(7), 2, Of(3), 1},
		{Of(-7), 2, Of(-4), 1},
		{Of(6), 2, Of(3), 0},
		{Of(-6), 2, Of(-3), 0},
		{Of(0), 7, Of(0), 0},
		{Of(1), 7, Of(0), 1},
		{Of(-1), 7, Of(-1), 6},
		{Of(-1), most, Of(-1), most - 1},
		{Of(least), most, Of(-2), most - 1},
		{Of(least), 1, Of(least), 0},
		{api.Wide{Lo: 1 << 63}, most, Of(1), 1},
		{api.Wide{Lo: filled}, 1 << 32, Of(1<<32 - 1), 1<<32 - 1},
		{api.Wide{Hi: 1}, 3, Of(6148914691236517205), 1},
		{api.Wide{Hi: 1}, 2, api.Wide{Lo: 1 << 63}, 0},
		{api.Wide{Hi: 1}, most, Of(2), 2},
		{api.Wide{Hi: -1}, most, Of(-3), most - 2},
		{api.Wide{Hi: -1}, 3, Of(-6148914691236517206), 2},
		{lowest, 1, lowest, 0},
		{highest, 1, highest, 0},
		{lowest, 2, api.Wide{Hi: -1 << 62}, 0},
		{highest, 2, api.Wide{Hi: 1<<62 - 1, Lo: filled}, 1},
		{lowest, most, api.Wide{Hi: -2, Lo: filled - 2}, most - 2},
		{highest, most, api.Wide{Hi: 1, Lo: 2}, 1},
		{highest, 1 << 62, api.Wide{Hi: 1, Lo: filled}, 1<<62 - 1},
	} {
		if q, r, e := Div(x.a, x.b); q != x.q || r != x.r || e != api.OK {
			t.Errorf("Div(%v, %d): got %v, %d, %d, want %v, %d", x.a, x.b, q, r, e, x.q, x.r)
		}
	}
}

func TestDivRefuses(t *testing.T) {
	for _, a := range wides() {
		for _, x := range []struct {
			b int64
			e api.Errno
		}{{0, api.ErrZero}, {-1, api.ErrArg}, {-3, api.ErrArg}, {-most, api.ErrArg}, {least, api.ErrArg}} {
			if q, r, e := Div(a, x.b); q != (api.Wide{}) || r != 0 || e != x.e {
				t.Errorf("Div(%v, %d): got %v, %d, %d, want error %d", a, x.b, q, r, e, x.e)
			}
		}
	}
}

// P2.4

func TestMulDiv(t *testing.T) {
	for _, x := range []struct {
		a, b, c, q, r int64
		e             api.Errno
	}{
		{10, 3, 4, 7, 2, api.OK},
		{-10, 3, 4, -8, 2, api.OK},
		{10, -3, 4, -8, 2, api.OK},
		{-10, -3, 4, 7, 2, api.OK},
		{0, least, 7, 0, 0, api.OK},
		{-1, 1, most, -1, most - 1, api.OK},
		{most, most, most, most, 0, api.OK},
		{least, most, most, least, 0, api.OK},
		{-most, most, most, -most, 0, api.OK},
		{least, 1, 1, least, 0, api.OK},
		{least, least, most, 0, 0, api.ErrOver},
		{most, 2, 1, 0, 0, api.ErrOver},
		{most, 2, 2, most, 0, api.OK},
		{1 << 62, 4, 2, 0, 0, api.ErrOver},
		{-1 << 62, 4, 2, least, 0, api.OK},
		{least, -1, 1, 0, 0, api.ErrOver},
		{1<<62 + 1, 4, 3, 6148914691236517206, 2, api.OK},
		// These lie between the last quotient that fits and the next one: the first two at the upper end, the others at the lower one.
		{88971434439113593, 311, 3, most, 2, api.OK},
		{-88971434439113593, -311, 3, most, 2, api.OK},
		{-88971434439113593, 311, 3, least, 1, api.OK},
		{-5534023222112865485, 5, 3, 0, 0, api.ErrOver},
		{1, 1, 0, 0, 0, api.ErrZero},
		{0, 0, 0, 0, 0, api.ErrZero},
		{most, most, 0, 0, 0, api.ErrZero},
		{1, 1, -1, 0, 0, api.ErrArg},
		{0, 0, least, 0, 0, api.ErrArg},
		{least, least, -1, 0, 0, api.ErrArg},
	} {
		if q, r, e := MulDiv(x.a, x.b, x.c); q != x.q || r != x.r || e != x.e {
			t.Errorf("MulDiv(%d, %d, %d): got %d, %d, %d, want %d, %d, %d", x.a, x.b, x.c, q, r, e, x.q, x.r, x.e)
		}
	}
}

func TestMulDivIsExact(t *testing.T) {
	for _, a := range numbers() {
		for _, b := range edges {
			for _, c := range edges {
				checkMulDiv(t, a, b, c)
			}
		}
	}
}

// checkMulDiv holds a call against the same one of numbers without bounds.
func checkMulDiv(t *testing.T, a, b, c int64) {
	t.Helper()
	var want, wantRest int64
	wantError := api.ErrZero
	if c < 0 {
		wantError = api.ErrArg
	} else if c > 0 {
		// Of a divisor above 0 big's own quotient and rest are those of the document.
		quotient, rest := new(big.Int), new(big.Int)
		quotient.DivMod(new(big.Int).Mul(big.NewInt(a), big.NewInt(b)), big.NewInt(c), rest)
		if want, wantError = fitting64(quotient); wantError == api.OK {
			wantRest = rest.Int64()
		}
	}
	if q, r, e := MulDiv(a, b, c); q != want || r != wantRest || e != wantError {
		t.Errorf("MulDiv(%d, %d, %d): got %d, %d, %d, want %d, %d, %d", a, b, c, q, r, e, want, wantRest, wantError)
	}
}

func TestSum(t *testing.T) {
	for _, x := range []struct {
		l []int64
		n int64
		e api.Errno
	}{
		{nil, 0, api.OK},
		{[]int64{}, 0, api.OK},
		{[]int64{0}, 0, api.OK},
		{[]int64{least}, least, api.OK},
		{[]int64{most}, most, api.OK},
		{[]int64{1, 2, 3}, 6, api.OK},
		{[]int64{-1, 2, -3}, -2, api.OK},
		{[]int64{most, 1, -1}, most, api.OK},
		{[]int64{least, -1, 1}, least, api.OK},
		{[]int64{most, most, least, least}, -2, api.OK},
		{[]int64{least, least, least, most, most, most}, -3, api.OK},
		{[]int64{most, most, most, most, least, least, least}, 1<<63 - 4, api.OK},
		{[]int64{least, least, most, 1, most, 1, 7}, 7, api.OK},
		{[]int64{most, 1}, 0, api.ErrOver},
		{[]int64{1, most}, 0, api.ErrOver},
		{[]int64{most, most}, 0, api.ErrOver},
		{[]int64{least, -1}, 0, api.ErrOver},
		{[]int64{least, least}, 0, api.ErrOver},
		{[]int64{most, most, 2}, 0, api.ErrOver},
		{[]int64{least, least, least, least}, 0, api.ErrOver},
		{[]int64{most, -1, 2}, 0, api.ErrOver},
	} {
		given := slices.Clone(x.l)
		if n, e := Sum(x.l...); n != x.n || e != x.e {
			t.Errorf("Sum(%v): got %d, %d, want %d, %d", x.l, n, e, x.n, x.e)
		}
		if !slices.Equal(x.l, given) {
			t.Errorf("Sum(%v): changed the list to %v", given, x.l)
		}
	}
}

// TestSumIsExact holds the sums of ever longer lists against those without bounds.
func TestSumIsExact(t *testing.T) {
	l := numbers()
	total := new(big.Int)
	for i := range l {
		want, wantError := fitting64(total)
		if n, e := Sum(l[:i]...); n != want || e != wantError {
			t.Errorf("Sum of the first %d: got %d, %d, want %d, %d", i, n, e, want, wantError)
		}
		total.Add(total, big.NewInt(l[i]))
	}
}

// P2.5

func TestDivAndRest(t *testing.T) {
	for _, a := range wides() {
		for _, b := range numbers() {
			if b <= 0 {
				continue
			}
			q, r, e := Div(a, b)
			if e != api.OK {
				t.Errorf("Div(%v, %d): got error %d", a, b, e)
			}
			if r < 0 || r >= b {
				t.Errorf("Div(%v, %d): got %d left over", a, b, r)
			}
			sum := new(big.Int).Mul(exact(q), big.NewInt(b))
			sum.Add(sum, big.NewInt(r))
			if sum.Cmp(exact(a)) != 0 {
				t.Errorf("Div(%v, %d): got %v, %d, which are %s", a, b, q, r, sum)
			}
		}
	}
}

func TestAddAndCmpAreExact(t *testing.T) {
	for _, a := range wides() {
		for _, b := range wides() {
			want, wantError := fitting(new(big.Int).Add(exact(a), exact(b)))
			if w, e := Add(a, b); w != want || e != wantError {
				t.Errorf("Add(%v, %v): got %v, %d, want %v, %d", a, b, w, e, want, wantError)
			}
			if n := Cmp(a, b); n != exact(a).Cmp(exact(b)) {
				t.Errorf("Cmp(%v, %v): got %d", a, b, n)
			}
		}
	}
}
