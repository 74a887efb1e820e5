// Package probe makes what packages are tried with, and works out slowly what they tell: only tests call it.
package probe

// EachText hands on all texts that are put together of at most so many pieces.
func EachText(pieces []string, many int, do func(s string)) {
	do("")
	if many == 0 {
		return
	}
	for _, p := range pieces {
		EachText(pieces, many-1, func(s string) { do(p + s) })
	}
}
