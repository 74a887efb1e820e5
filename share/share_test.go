package share

import (
	"math/big"
	"slices"
	"testing"

	"quarterday/api"
)

const (
	least = -1 << 63
	most  = 1<<63 - 1
)

// amounts are those at which 64 bits are just enough, and others of both signs.
var amounts = []int64{
	least, least + 1, -1 << 62, -1000003, -4097, -4096, -101, -100, -11, -10, -7, -3, -2, -1,
	0, 1, 2, 3, 7, 10, 11, 100, 101, 4096, 4097, 1000003, 1 << 62, most - 1, most,
}

// spread is n weights from 0 to below 2^bits, by a fixed rule.
func spread(n, bits int) []int64 {
	l := make([]int64, n)
	state := uint64(n)*64 + uint64(bits)
	for i := range l {
		state = state*6364136223846793005 + 1442695040888963407
		l[i] = int64(state >> (64 - bits))
	}
	return l
}

// weightLists are lists of weights that may be.
func weightLists() [][]int64 {
	return [][]int64{
		{1}, {2}, {7}, {most},
		{1, 1}, {1, 2}, {2, 1}, {1, 0}, {0, 1}, {most - 1, 1}, {1, most - 1}, {1 << 62, 1<<62 - 1}, {most, 0}, {0, 0, most},
		{1, 1, 1}, {1, 2, 4}, {4, 2, 1}, {3, 3, 4}, {0, 3, 0, 1}, {0, 1, 0, 1, 0}, {6, 9, 15}, {1 << 62, 1 << 61}, {1 << 61, 1 << 62},
		{1 << 61, 1 << 61, 1 << 61, 1<<61 - 1}, {most / 7, most / 7, most / 7, most / 7, most / 7, most / 7, most / 7},
		{most / 2, 1, most / 2}, {5, 1, 5, 1, 5, 1, 5, 1},
		slices.Repeat([]int64{1}, 13), slices.Repeat([]int64{28, 28, 35}, 4), slices.Repeat([]int64{3, 1, 0, 2}, 25),
		spread(2, 62), spread(3, 61), spread(10, 59), spread(50, 3), spread(100, 56), spread(300, 1), spread(500, 20),
	}
}

// longLists are those with as many weights as there may be.
func longLists() [][]int64 {
	single := make([]int64, api.MaxParts)
	single[api.MaxParts-1] = 1
	return [][]int64{
		slices.Repeat([]int64{1}, api.MaxParts),
		slices.Repeat([]int64{1 << 51}, api.MaxParts)[:api.MaxParts-1],
		slices.Repeat([]int64{2, 1, 3, 0}, api.MaxParts/4),
		slices.Repeat([]int64{most / api.MaxParts}, api.MaxParts),
		spread(api.MaxParts, 51), spread(api.MaxParts, 2), single,
	}
}

func sum(w []int64) *big.Int {
	total := new(big.Int)
	for _, n := range w {
		total.Add(total, big.NewInt(n))
	}
	return total
}

// exactShare is a times weight, divided by total, as a ratio without bounds.
func exactShare(a, weight int64, total *big.Int) *big.Rat {
	return new(big.Rat).SetFrac(new(big.Int).Mul(big.NewInt(a), big.NewInt(weight)), total)
}

// splitSlowly splits as the chapter says it, by numbers without bounds: as long as something is left over, it looks for who is furthest above its part.
func splitSlowly(a int64, w []int64) []int64 {
	total := sum(w)
	parts, rests := make([]int64, len(w)), make([]int64, len(w))
	left := big.NewInt(a)
	for i, weight := range w {
		product := new(big.Int).Mul(big.NewInt(a), big.NewInt(weight))
		// Above a divisor that is above 0, DivMod goes down, also below 0.
		q, r := new(big.Int).DivMod(product, total, new(big.Int))
		parts[i], rests[i] = q.Int64(), r.Int64()
		left.Sub(left, q)
	}
	for range left.Int64() {
		best := 0
		for i := range rests {
			if rests[i] > rests[best] {
				best = i
			}
		}
		parts[best]++
		rests[best] = -1
	}
	return parts
}

func checkSplit(t *testing.T, a int64, w, want []int64) {
	t.Helper()
	l, e := Split(a, w)
	if e != api.OK || !slices.Equal(l, want) {
		t.Errorf("Split(%d, %s): got %s, %d, want %s", a, brief(w), brief(l), e, brief(want))
	}
}

// brief is the beginning of a list, for telling it.
func brief(l []int64) string {
	text := ""
	for i, n := range l {
		if i == 20 {
			return text + " .."
		}
		text += " " + big.NewInt(n).String()
	}
	return "[" + text + " ]"
}

// P4.1

func TestSplit(t *testing.T) {
	for _, x := range []struct {
		a       int64
		w, want []int64
	}{
		{10, []int64{1, 1, 1}, []int64{4, 3, 3}},
		{11, []int64{1, 1, 1}, []int64{4, 4, 3}},
		{12, []int64{1, 1, 1}, []int64{4, 4, 4}},
		{-10, []int64{1, 1, 1}, []int64{-3, -3, -4}},
		{-11, []int64{1, 1, 1}, []int64{-3, -4, -4}},
		{100, []int64{4, 5, 4}, []int64{31, 38, 31}},
		{11, []int64{1, 2, 4}, []int64{2, 3, 6}},
		{11, []int64{4, 2, 1}, []int64{6, 3, 2}},
		// 2.5 and 7.5 lie as far above their parts, whatever their weights.
		{10, []int64{1, 3}, []int64{3, 7}},
		{10, []int64{3, 1}, []int64{8, 2}},
		{-10, []int64{1, 3}, []int64{-2, -8}},
		{-10, []int64{3, 1}, []int64{-7, -3}},
		{5, []int64{0, 3, 0, 1}, []int64{0, 4, 0, 1}},
		{1, []int64{0, 1, 0, 1}, []int64{0, 1, 0, 0}},
		{-1, []int64{0, 1, 0, 1}, []int64{0, 0, 0, -1}},
		{1, []int64{1, 2}, []int64{0, 1}},
		{-1, []int64{1, 2}, []int64{0, -1}},
		{-1, []int64{2, 1}, []int64{-1, 0}},
		{1, []int64{1, 1}, []int64{1, 0}},
		{-1, []int64{1, 1}, []int64{0, -1}},
		{0, []int64{2, 0, 5}, []int64{0, 0, 0}},
	} {
		checkSplit(t, x.a, x.w, x.want)
	}
}

func TestSplitAtEdges(t *testing.T) {
	for _, x := range []struct {
		a       int64
		w, want []int64
	}{
		{most, []int64{1}, []int64{most}},
		{least, []int64{1}, []int64{least}},
		{most, []int64{most}, []int64{most}},
		{least, []int64{most}, []int64{least}},
		{0, []int64{most}, []int64{0}},
		{-1, []int64{5}, []int64{-1}},
		{most, []int64{0, 7}, []int64{0, most}},
		{least, []int64{7, 0}, []int64{least, 0}},
		{most, []int64{1, 1}, []int64{1 << 62, 1<<62 - 1}},
		{least, []int64{1, 1}, []int64{-1 << 62, -1 << 62}},
		// The greatest whole numbers that are not above these shares are together less than -2^63.
		{least, []int64{1, 1, 1}, []int64{-3074457345618258602, -3074457345618258603, -3074457345618258603}},
		{least, []int64{1, most - 1}, []int64{-1, -most}},
		{least, []int64{most - 1, 1}, []int64{-most, -1}},
		{most, []int64{1, most - 1}, []int64{1, most - 1}},
		{most - 1, []int64{most - 1, 1}, []int64{most - 2, 1}},
		{7, []int64{1 << 62, 1 << 61}, []int64{5, 2}},
		{-7, []int64{1 << 62, 1 << 61}, []int64{-5, -2}},
		{least, []int64{1 << 62, 1<<62 - 1}, []int64{-1<<62 - 1, -1<<62 + 1}},
	} {
		checkSplit(t, x.a, x.w, x.want)
	}
}

// TestSplitTies has more shares that lie as far above their parts than a sort leaves in order by chance.
func TestSplitTies(t *testing.T) {
	for _, n := range []int{2, 3, 12, 13, 64, 100, 1001, api.MaxParts} {
		w := slices.Repeat([]int64{3}, n)
		for _, left := range []int{0, 1, 2, n / 2, n - 1} {
			up, down := slices.Repeat([]int64{5}, n), slices.Repeat([]int64{-6}, n)
			for i := range left {
				up[i]++
				down[i]++
			}
			checkSplit(t, int64(5*n+left), w, up)
			checkSplit(t, int64(-6*n+left), w, down)
		}
	}
}

func TestSplitBySlowOnes(t *testing.T) {
	for _, w := range weightLists() {
		for _, a := range amounts {
			checkSplit(t, a, w, splitSlowly(a, w))
		}
	}
	for _, w := range longLists() {
		for _, a := range []int64{least, -100003, -1, 0, 1, 6143, most} {
			checkSplit(t, a, w, splitSlowly(a, w))
		}
	}
}

// TestSplitOfAllSmallOnes goes through each three small weights.
func TestSplitOfAllSmallOnes(t *testing.T) {
	for code := int64(1); code < 125; code++ {
		w := []int64{code % 5, code / 5 % 5, code / 25}
		for a := int64(-15); a <= 15; a++ {
			checkSplit(t, a, w, splitSlowly(a, w))
		}
	}
}

// P4.2

func checkExact(t *testing.T, a int64, w []int64, want []api.Ratio, wantError api.Errno) {
	t.Helper()
	l, e := Exact(a, w)
	if e != wantError || !slices.Equal(l, want) {
		t.Errorf("Exact(%d, %s): got %v, %d, want %v, %d", a, brief(w), l, e, want, wantError)
	}
}

func TestExact(t *testing.T) {
	for _, x := range []struct {
		a    int64
		w    []int64
		want []api.Ratio
	}{
		{10, []int64{1, 1, 1}, []api.Ratio{{N: 10, D: 3}, {N: 10, D: 3}, {N: 10, D: 3}}},
		{-10, []int64{1, 0, 3}, []api.Ratio{{N: -5, D: 2}, {N: 0, D: 1}, {N: -15, D: 2}}},
		{11, []int64{4, 2, 1}, []api.Ratio{{N: 44, D: 7}, {N: 22, D: 7}, {N: 11, D: 7}}},
		{12, []int64{2, 4, 6}, []api.Ratio{{N: 2, D: 1}, {N: 4, D: 1}, {N: 6, D: 1}}},
		{0, []int64{2, 0, 5}, []api.Ratio{{N: 0, D: 1}, {N: 0, D: 1}, {N: 0, D: 1}}},
		{1, []int64{1, 1}, []api.Ratio{{N: 1, D: 2}, {N: 1, D: 2}}},
		{-1, []int64{1, 1}, []api.Ratio{{N: -1, D: 2}, {N: -1, D: 2}}},
		{most, []int64{3}, []api.Ratio{{N: most, D: 1}}},
		{least, []int64{most}, []api.Ratio{{N: least, D: 1}}},
		{least, []int64{1, 1}, []api.Ratio{{N: -1 << 62, D: 1}, {N: -1 << 62, D: 1}}},
		{most, []int64{1, 1}, []api.Ratio{{N: most, D: 2}, {N: most, D: 2}}},
		// The products do not fit on the way, but the shares do.
		{most, []int64{most - 1, 1}, []api.Ratio{{N: most - 1, D: 1}, {N: 1, D: 1}}},
		{least, []int64{1, 1, 1}, []api.Ratio{{N: least, D: 3}, {N: least, D: 3}, {N: least, D: 3}}},
		{-1, []int64{most - 1, 1}, []api.Ratio{{N: -most + 1, D: most}, {N: -1, D: most}}},
		{least, []int64{1, 0}, []api.Ratio{{N: least, D: 1}, {N: 0, D: 1}}},
	} {
		checkExact(t, x.a, x.w, x.want, api.OK)
	}
}

func TestExactDoesNotFit(t *testing.T) {
	for _, x := range []struct {
		a int64
		w []int64
	}{
		{most - 1, []int64{most - 2, 2}},
		{least, []int64{1, 2}},
		{least, []int64{2, 1}},
		{most, []int64{1, 2}},
		{2, []int64{1, most - 1}},
		{-2, []int64{1, most - 1}},
		{least, []int64{1, most - 1}},
		// By one, too great.
		{1 << 62, []int64{0, 1, 2}},
	} {
		checkExact(t, x.a, x.w, nil, api.ErrOver)
	}
	checkExact(t, -1<<62, []int64{0, 1, 2}, []api.Ratio{{N: 0, D: 1}, {N: -1 << 62, D: 3}, {N: least, D: 3}}, api.OK)
}

// exactSlowly is what Exact must tell, by ratios without bounds, which keep themselves in lowest terms.
func exactSlowly(a int64, w []int64) ([]api.Ratio, api.Errno) {
	total := sum(w)
	var l []api.Ratio
	for _, weight := range w {
		r := exactShare(a, weight, total)
		if !r.Num().IsInt64() {
			return nil, api.ErrOver
		}
		l = append(l, api.Ratio{N: r.Num().Int64(), D: r.Denom().Int64()})
	}
	return l, api.OK
}

func TestExactBySlowOnes(t *testing.T) {
	for _, w := range append(weightLists(), longLists()...) {
		for _, a := range amounts {
			want, e := exactSlowly(a, w)
			checkExact(t, a, w, want, e)
		}
	}
}

// P4.3

func TestPartsAreTheAmount(t *testing.T) {
	one := big.NewRat(1, 1)
	for _, w := range append(weightLists(), longLists()...) {
		total := sum(w)
		for _, a := range amounts {
			l, e := Split(a, w)
			if e != api.OK || len(l) != len(w) {
				t.Fatalf("Split(%d, %s): got %d parts, %d", a, brief(w), len(l), e)
			}
			if together := sum(l); together.Cmp(big.NewInt(a)) != 0 {
				t.Errorf("Split(%d, %s): got %s together", a, brief(w), together)
			}
			for i, n := range l {
				away := new(big.Rat).Sub(new(big.Rat).SetInt64(n), exactShare(a, w[i], total))
				if away.Abs(away).Cmp(one) >= 0 || w[i] == 0 && n != 0 {
					t.Errorf("Split(%d, %s): got %d at %d", a, brief(w), n, i)
				}
			}
		}
	}
}

func TestExactSharesAreTheAmount(t *testing.T) {
	for _, w := range weightLists() {
		for _, a := range amounts {
			l, e := Exact(a, w)
			if e != api.OK {
				continue
			}
			together := new(big.Rat)
			for _, r := range l {
				together.Add(together, new(big.Rat).SetFrac(big.NewInt(r.N), big.NewInt(r.D)))
			}
			if together.Cmp(new(big.Rat).SetInt64(a)) != 0 {
				t.Errorf("Exact(%d, %s): got %s together", a, brief(w), together)
			}
		}
	}
}

// Of P4.1 and P4.2: what may not be.

// long is one weight too many, each of them n, but for the first one.
func long(first, n int64) []int64 {
	w := slices.Repeat([]int64{n}, api.MaxParts+1)
	w[0] = first
	return w
}

func TestRefusals(t *testing.T) {
	for _, x := range []struct {
		w []int64
		e api.Errno
	}{
		{nil, api.ErrZero},
		{[]int64{}, api.ErrZero},
		{[]int64{0}, api.ErrZero},
		{[]int64{0, 0, 0}, api.ErrZero},
		{make([]int64, api.MaxParts), api.ErrZero},
		{[]int64{-1}, api.ErrArg},
		{[]int64{least}, api.ErrArg},
		{[]int64{1, 2, -1}, api.ErrArg},
		{[]int64{-1, 5}, api.ErrArg},
		{[]int64{most, 1}, api.ErrOver},
		{[]int64{1, most}, api.ErrOver},
		{[]int64{1 << 62, 1 << 62}, api.ErrOver},
		{[]int64{most, most}, api.ErrOver},
		// These would go around to 0, or to a number above it.
		{[]int64{1 << 62, 1 << 62, 1 << 62, 1 << 62}, api.ErrOver},
		{[]int64{most, most, 2}, api.ErrOver},
		{[]int64{most, most, 5}, api.ErrOver},
		{slices.Repeat([]int64{1 << 51}, api.MaxParts), api.ErrOver},
		{slices.Repeat([]int64{1 << 52}, api.MaxParts), api.ErrOver},
		{long(1, 1), api.ErrLong},
		{make([]int64, 3*api.MaxParts), api.ErrLong},
		// More than one at once.
		{long(0, 0), api.ErrLong},
		{long(-1, 1), api.ErrLong},
		{long(1, -1), api.ErrLong},
		{long(least, most), api.ErrLong},
		{long(most, most), api.ErrLong},
		{[]int64{1, -1}, api.ErrArg},
		{[]int64{0, -1, 0, 1}, api.ErrArg},
		{[]int64{most, 1, -1}, api.ErrArg},
		{[]int64{-1, most, most}, api.ErrArg},
		{[]int64{least, most, 1}, api.ErrArg},
		{[]int64{least, least}, api.ErrArg},
	} {
		for _, a := range []int64{least, -1, 0, 1, most} {
			if l, e := Split(a, x.w); e != x.e || len(l) != 0 {
				t.Errorf("Split(%d, %s): got %s, %d, want error %d", a, brief(x.w), brief(l), e, x.e)
			}
			checkExact(t, a, x.w, nil, x.e)
		}
	}
}

func TestWeightsThatAreJustEnough(t *testing.T) {
	for _, w := range [][]int64{{most}, {most - 1, 1}, {1 << 62, 1<<62 - 1}, {0, most, 0}, slices.Repeat([]int64{1 << 51}, api.MaxParts)[:api.MaxParts-1]} {
		if l, e := Split(0, w); e != api.OK || !slices.Equal(l, make([]int64, len(w))) {
			t.Errorf("Split(0, %s): got %s, %d", brief(w), brief(l), e)
		}
		checkExact(t, 0, w, slices.Repeat([]api.Ratio{{N: 0, D: 1}}, len(w)), api.OK)
	}
}

// Of P4.1 and P4.2: what is told is new, and what is handed in stays as it is.

func TestAnswersAreNew(t *testing.T) {
	all := []int64{5, 1, 5, 2, 77, 88}
	w := all[:4]
	parts, _ := Split(10, w)
	others, _ := Split(10, w)
	exact, _ := Exact(10, w)
	otherExact, _ := Exact(10, w)
	if !slices.Equal(all, []int64{5, 1, 5, 2, 77, 88}) {
		t.Errorf("weights became %v", all)
	}
	clear(parts)
	clear(exact)
	if !slices.Equal(all, []int64{5, 1, 5, 2, 77, 88}) {
		t.Errorf("weights became %v with the answer", all)
	}
	clear(all)
	if !slices.Equal(others, []int64{4, 1, 4, 1}) {
		t.Errorf("parts became %v", others)
	}
	if !slices.Equal(otherExact, []api.Ratio{{N: 50, D: 13}, {N: 10, D: 13}, {N: 50, D: 13}, {N: 20, D: 13}}) {
		t.Errorf("shares became %v", otherExact)
	}
}
