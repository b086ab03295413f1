package spec_test

import (
	"math"
	"math/rand"
	"testing"

	"coxswain/api"
	"coxswain/spec"
)

// P6.4: where a sum is just most's, and one above it, of CPU and of Mem.
func TestFitsJust(t *testing.T) {
	for _, used := range []int{0, 1, 5, 1 << 40, top / 2} {
		for _, ask := range []int{0, 1, 7, 1 << 40, top / 2} {
			sum := used + ask
			u, a := res(used, used), res(ask, ask)
			fits(t, u, a, res(sum, sum), true)
			fits(t, u, a, res(sum+1, sum), true)
			fits(t, u, a, res(sum, sum+1), true)
			fits(t, u, a, res(sum-1, sum), false)
			fits(t, u, a, res(sum, sum-1), false)
			fits(t, u, a, res(sum-1, math.MaxInt), false)
			fits(t, u, a, res(math.MaxInt, sum-1), false)

			fits(t, res(used, 0), res(ask, 0), res(sum, 0), true)
			fits(t, res(0, used), res(0, ask), res(0, sum), true)
			fits(t, res(used, 0), res(ask, 1), res(sum, 0), false)
			fits(t, res(1, used), res(0, ask), res(0, sum), false)
		}
	}
}

// P6.4: nothing fits if Add may not be, whatever most is; most itself is held against the sums alone, so one above 2^60 is no fault, and one below 0 lets nothing in.
func TestFitsOnlyWhatMayBeAdded(t *testing.T) {
	for _, most := range []int{top, top + 1, math.MaxInt} {
		m := res(most, most)
		fits(t, res(top, top), res(0, 0), m, true)
		fits(t, res(0, 0), res(top, top), m, true)
		fits(t, res(top-1, 1), res(1, top-1), m, true)
		fits(t, res(top, 0), res(1, 0), m, false)
		fits(t, res(0, top), res(0, 1), m, false)
		fits(t, res(top+1, 0), res(0, 0), m, false)
		fits(t, res(0, 0), res(0, top+1), m, false)
	}
	for _, wrong := range []int{-1, -5, -top, math.MinInt, math.MinInt + 1, top + 1, math.MaxInt} {
		for _, most := range []int{math.MinInt, -1, 0, 1, 10, top, math.MaxInt} {
			m := res(most, most)
			fits(t, res(wrong, 0), res(5, 0), m, false)
			fits(t, res(0, wrong), res(0, 5), m, false)
			fits(t, res(5, 0), res(wrong, 0), m, false)
			fits(t, res(0, 5), res(0, wrong), m, false)
			fits(t, res(wrong, wrong), res(wrong, wrong), m, false)
		}
	}
	for _, most := range []int{-1, -2, -top, math.MinInt} {
		fits(t, res(0, 0), res(0, 0), res(most, 0), false)
		fits(t, res(0, 0), res(0, 0), res(0, most), false)
		fits(t, res(0, 0), res(0, 0), res(most, math.MaxInt), false)
		fits(t, res(0, 0), res(0, 0), res(math.MaxInt, most), false)
	}
	fits(t, api.Res{}, api.Res{}, api.Res{}, true)
}

// fitsAsTold holds Fits against the words of P6.4, with sums that do not wrap round.
func fitsAsTold(t *testing.T, used, ask, most api.Res) {
	t.Helper()
	cpu, first := sumOf(used.CPU, ask.CPU)
	mem, second := sumOf(used.Mem, ask.Mem)
	fits(t, used, ask, most, first && second && cpu <= most.CPU && mem <= most.Mem)
}

// P6.4: all edges beside all edges, and any numbers at all.
func TestFitsOfAllEdges(t *testing.T) {
	edges := sumEdges()
	for _, a := range edges {
		for _, b := range edges {
			for _, c := range edges {
				fitsAsTold(t, res(a, 0), res(b, 0), res(c, 0))
				fitsAsTold(t, res(0, a), res(0, b), res(0, c))
				fitsAsTold(t, res(a, b), res(b, a), res(c, c))
				fitsAsTold(t, res(a, b), res(c, a), res(b, c))
			}
		}
	}
	dice := rand.New(rand.NewSource(6))
	for range 200000 {
		fitsAsTold(t, anyRes(dice), anyRes(dice), anyRes(dice))
	}
}

// P6.5: what fits beside more fits beside less: down to nothing. It fits as well, then, if less is asked, or most is more; and used and asked may change places.
func TestFitsBesideLess(t *testing.T) {
	dice := rand.New(rand.NewSource(6))
	fit := 0
	for range 200000 {
		used, ask, most := anyRes(dice), anyRes(dice), anyRes(dice)
		if spec.Fits(used, ask, most) != spec.Fits(ask, used, most) {
			t.Errorf("Fits(%v, %v, %v) is not what it is the other way about", used, ask, most)
		}
		if !spec.Fits(used, ask, most) {
			continue
		}
		fit++
		fits(t, lessOf(dice, used), ask, most, true)
		fits(t, used, lessOf(dice, ask), most, true)
		fits(t, res(0, used.Mem), ask, most, true)
		fits(t, res(used.CPU, 0), ask, most, true)
		fits(t, res(0, 0), ask, most, true)
		fits(t, used, ask, res(math.MaxInt, most.Mem), true)
		fits(t, used, ask, res(most.CPU, math.MaxInt), true)
	}
	if fit < 1000 {
		t.Errorf("of all these only %d fit", fit)
	}
}

// lessOf is one with no number above r's, and none below 0.
func lessOf(dice *rand.Rand, r api.Res) api.Res {
	return res(dice.Intn(r.CPU+1), dice.Intn(r.Mem+1))
}

// P6.5: of small numbers all, one by one: what fits beside one more fits beside one less.
func TestFitsBesideOneLess(t *testing.T) {
	for cpu := 0; cpu < 7; cpu++ {
		for mem := 0; mem < 7; mem++ {
			for ask := 0; ask < 49; ask++ {
				a, most := res(ask/7, ask%7), res(6, 5)
				want := cpu+a.CPU <= 6 && mem+a.Mem <= 5
				fits(t, res(cpu, mem), a, most, want)
				if want && cpu > 0 {
					fits(t, res(cpu-1, mem), a, most, true)
				}
				if want && mem > 0 {
					fits(t, res(cpu, mem-1), a, most, true)
				}
			}
		}
	}
}
