// Package probe makes what packages are tried with, and works out slowly what they tell: only tests call it.
package probe

// EachText hands on all texts that are put together of at most so many pieces.
func EachText(pieces []string, many int, do func(s string)) {
	do("")
	if many == 0 {
		return
	}
	for _, p := range pieces {
		EachText(pieces, many-1, func(s string) { do(p + s) })
	}
}

// Far are numbers that some would take for n: those that have its last 32 bits, or that go around when they are added to, and the least and the greatest ones.
func Far(n int) []int {
	return []int{n + 1<<32, n - 1<<32, n + 1<<62, n + -1<<63, -1 << 63, -1<<63 + 1, 1<<63 - 2, 1<<63 - 1}
}
