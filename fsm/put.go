package fsm

import "slices"

// put lays a thing into a list that rises by a number: in the place of the one with its number, or ahead of the first greater one.
func put[T any](list []T, thing T, number func(x T) int) []T {
	n := number(thing)
	if at := slices.IndexFunc(list, func(x T) bool { return number(x) == n }); at >= 0 {
		list[at] = thing
		return list
	}
	at := slices.IndexFunc(list, func(x T) bool { return number(x) > n })
	if at < 0 {
		at = len(list)
	}
	return slices.Insert(list, at, thing)
}
