package spec_test

import (
	"math"
	"math/big"
	"math/rand"
	"testing"

	"coxswain/api"
	"coxswain/spec"
)

const top = 1 << 60

// sumEdges are numbers round all edges of a sum: those that may be, and those that may not; among them pairs whose sum is just 2^60, one more, or wraps round to what might be.
func sumEdges() []int {
	return []int{math.MinInt, math.MinInt + 1, -top - 1, -top, -1 << 40, -2, -1, 0, 1, 2, 1 << 40, 1<<40 + 1, top/2 - 1, top / 2, top/2 + 1, top - 2, top - 1, top, top + 1, 2 * top, 4 * top, math.MaxInt - 1, math.MaxInt}
}

// sumOf is a sum, worked out where nothing wraps round, and whether it may be.
func sumOf(a, b int) (int, bool) {
	zero, most := big.NewInt(0), big.NewInt(top)
	x, y := big.NewInt(int64(a)), big.NewInt(int64(b))
	sum := new(big.Int).Add(x, y)
	for _, n := range []*big.Int{x, y, sum} {
		if n.Cmp(zero) < 0 || n.Cmp(most) > 0 {
			return 0, false
		}
	}
	return int(sum.Int64()), true
}

func addsAsTold(t *testing.T, a, b api.Res) {
	t.Helper()
	cpu, first := sumOf(a.CPU, b.CPU)
	mem, second := sumOf(a.Mem, b.Mem)
	if first && second {
		adds(t, a, b, res(cpu, mem))
	} else {
		addsNot(t, a, b)
	}
}

// P6.3 and P6.4, the chapter's examples.
func TestExamplesOfSums(t *testing.T) {
	adds(t, res(1, 2), res(3, 4), res(4, 6))
	addsNot(t, res(top, 0), res(1, 0))
	addsNot(t, res(-1, 0), res(1, 0))
	fits(t, res(5, 5), res(5, 1), res(10, 6), true)
	fits(t, res(5, 5), res(6, 1), res(10, 6), false)
}

// P6.3: sums of just 2^60, and of one more, of CPU and of Mem.
func TestGreatestSums(t *testing.T) {
	for _, part := range []int{0, 1, 2, 1 << 40, top/2 - 1, top / 2, top/2 + 1, top - 1, top} {
		rest := top - part
		adds(t, res(part, 0), res(rest, 0), res(top, 0))
		adds(t, res(0, part), res(0, rest), res(0, top))
		adds(t, res(part, rest), res(rest, part), res(top, top))
		adds(t, res(part, part), res(rest, rest), res(top, top))
		addsNot(t, res(part, 0), res(rest+1, 0))
		addsNot(t, res(part+1, 0), res(rest, 0))
		addsNot(t, res(0, part), res(0, rest+1))
		addsNot(t, res(0, part+1), res(0, rest))
		addsNot(t, res(part, part), res(rest, rest+1))
		addsNot(t, res(part, part), res(rest+1, rest))
	}
}

// P6.3: each of the four numbers is asked, and not their sum alone: a wrong one whose sum might be is refused.
func TestEachNumberOfASum(t *testing.T) {
	for _, wrong := range []int{-1, -2, -100, -1 << 40, -top, -top - 1, math.MinInt, math.MinInt + 1, top + 1, top + 2, 2 * top, math.MaxInt - 1, math.MaxInt} {
		for _, other := range []int{0, 1, 100, 101, 1 << 40, top - 1, top} {
			addsNot(t, res(wrong, 0), res(other, 0))
			addsNot(t, res(other, 0), res(wrong, 0))
			addsNot(t, res(0, wrong), res(0, other))
			addsNot(t, res(0, other), res(0, wrong))
			addsNot(t, res(other, wrong), res(0, 0))
			addsNot(t, res(0, 0), res(wrong, other))
		}
		addsNot(t, res(wrong, wrong), res(wrong, wrong))
	}
}

// P6.3: numbers whose sum wraps round, to 0, to 1, to just 2^60, below 0.
func TestSumsThatWrapRound(t *testing.T) {
	for _, l := range [][2]int{
		{math.MinInt, math.MinInt},
		{math.MinInt, math.MinInt + 1},
		{math.MinInt, math.MinInt + top},
		{math.MinInt + 1, math.MinInt + top - 1},
		{math.MinInt, -1},
		{math.MaxInt, 1},
		{math.MaxInt, math.MaxInt},
		{math.MaxInt, top},
		{4 * top, 4 * top},
		{-4 * top, -4 * top},
		{1 << 32, 1<<62 + 1},
	} {
		addsNot(t, res(l[0], 0), res(l[1], 0))
		addsNot(t, res(l[1], 0), res(l[0], 0))
		addsNot(t, res(0, l[0]), res(0, l[1]))
		addsNot(t, res(0, l[1]), res(0, l[0]))
		addsNot(t, res(l[0], l[0]), res(l[1], l[1]))
	}
}

// P6.3: all edges beside all edges, against sums that do not wrap round; P6.5: and the other way about.
func TestSumsOfAllEdges(t *testing.T) {
	edges := sumEdges()
	for _, a := range edges {
		for _, b := range edges {
			for _, c := range edges {
				addsAsTold(t, res(a, b), res(c, 0))
				addsAsTold(t, res(b, a), res(0, c))
				addsAsTold(t, res(a, b), res(c, a))
				sameBothWays(t, res(a, b), res(c, b))
			}
		}
	}
}

func sameBothWays(t *testing.T, a, b api.Res) {
	t.Helper()
	x, first := spec.Add(a, b)
	y, second := spec.Add(b, a)
	if x != y || first != second {
		t.Errorf("Add(%v, %v): %v, %v; the other way about: %v, %v", a, b, x, first, y, second)
	}
}

// P6.3: any numbers at all, against sums that do not wrap round.
func TestSumsOfAnyNumbers(t *testing.T) {
	dice := rand.New(rand.NewSource(6))
	for range 200000 {
		a, b := anyRes(dice), anyRes(dice)
		addsAsTold(t, a, b)
		sameBothWays(t, a, b)
	}
}

// anyRes is one of all sizes, now and then with a number that may not be.
func anyRes(dice *rand.Rand) api.Res {
	one := func() int {
		switch dice.Intn(12) {
		case 0:
			return int(dice.Uint64())
		case 1:
			edges := sumEdges()
			return edges[dice.Intn(len(edges))]
		default:
			return int(dice.Uint64() >> (3 + dice.Intn(61)))
		}
	}
	return res(one(), one())
}

// addAll adds a list up, one behind the other.
func addAll(l []api.Res) (api.Res, bool) {
	sum, ok := api.Res{}, true
	for _, r := range l {
		if sum, ok = spec.Add(sum, r); !ok {
			return api.Res{}, false
		}
	}
	return sum, true
}

// eachOrder calls f with each order of l.
func eachOrder(l []api.Res, from int, f func(l []api.Res)) {
	if from == len(l) {
		f(l)
		return
	}
	for i := from; i < len(l); i++ {
		l[from], l[i] = l[i], l[from]
		eachOrder(l, from+1, f)
		l[from], l[i] = l[i], l[from]
	}
}

// P6.5: a sum of several, one behind the other, does not hang on their order, be it one that may be or not.
func TestSumsDoNotHangOnTheOrder(t *testing.T) {
	dice := rand.New(rand.NewSource(6))
	lists := [][]api.Res{
		{res(top/2, 0), res(top/4, 1), res(top/4, 2)},
		{res(top/2, 0), res(top/4, 1), res(top/4+1, 2)},
		{res(top, 0), res(0, top), res(0, 0)},
		{res(top, 0), res(1, 0), res(-1, 0)},
		{res(top, 0), res(0, top), res(-1, 0), res(0, 1)},
		{res(math.MaxInt, 0), res(1, 0), res(math.MinInt, 0)},
	}
	for range 2000 {
		l := make([]api.Res, 2+dice.Intn(4))
		for i := range l {
			l[i] = anyRes(dice)
			if dice.Intn(10) > 0 {
				l[i] = res(dice.Intn(top/2), dice.Intn(top/2))
			}
		}
		lists = append(lists, l)
	}
	for _, l := range lists {
		want, may := addAll(l)
		eachOrder(l, 0, func(l []api.Res) {
			if sum, ok := addAll(l); sum != want || ok != may {
				t.Errorf("the sum of %v: %v, %v; in another order: %v, %v", l, sum, ok, want, may)
			}
		})
	}
}
