package store

import "iter"

// where tells those of a list that are looked for, each with its place, in their order.
func where[T any](list []T, is func(x T) bool) iter.Seq2[int, T] {
	return func(yield func(i int, x T) bool) {
		for i, x := range list {
			if is(x) && !yield(i, x) {
				return
			}
		}
	}
}

// first is the place of the first one of a list that is looked for; -1: there is none.
func first[T any](list []T, is func(x T) bool) int {
	for i := range where(list, is) {
		return i
	}
	return -1
}
