package spec_test

import (
	"math"
	"math/rand"
	"testing"

	"coxswain/api"
)

// P6.2: each number at its edges and beyond them.
func TestEachNumberOfANode(t *testing.T) {
	for _, f := range nodeNumbers() {
		for _, n := range f.edges() {
			x := goodNode()
			*f.of(&x) = n
			nodeMay(t, x, f.mayBe(n))
		}
	}
}

// P6.2: the IDs that may be are just four.
func TestIDsOfNodes(t *testing.T) {
	for id := -300; id <= 300; id++ {
		n := goodNode()
		n.ID = id
		nodeMay(t, n, id == 1 || id == 2 || id == 3 || id == 4)
	}
}

// P6.2: each way in which every number stands at one of its edges, and then one of them is wrong, or two.
func TestAllNumbersOfANodeAtTheirEdges(t *testing.T) {
	numbers := nodeNumbers()
	for ways := range 1 << len(numbers) {
		n := goodNode()
		for i, f := range numbers {
			*f.of(&n) = f.least
			if ways>>i&1 == 1 {
				*f.of(&n) = f.most
			}
		}
		nodeMay(t, n, true)
		for _, f := range numbers {
			for _, g := range numbers {
				for _, wrong := range []int{f.least - 1, f.most + 1} {
					x := n
					*f.of(&x) = wrong
					nodeMay(t, x, false)
					*g.of(&x) = g.most + 1
					nodeMay(t, x, false)
				}
			}
		}
	}
}

// P6.2: Up, Drain, Epoch and Seq are not looked at, be the node one that may be or not.
func TestNotLookedAtInANode(t *testing.T) {
	numbers := []int{math.MinInt, -1, 0, 1, 4, 5, 1 << 40, 1<<40 + 1, 1<<60 + 1, math.MaxInt}
	for _, epoch := range numbers {
		for _, seq := range numbers {
			for bits := range 4 {
				n := goodNode()
				n.Epoch, n.Seq = epoch, seq
				n.Up, n.Drain = bits&1 == 1, bits&2 == 2
				nodeMay(t, n, true)
				n.Boot = 0
				nodeMay(t, n, false)
			}
		}
	}
}

// P6.2: any numbers at all, edges above all, against what the numbers say one by one.
func TestNodesOfAnyNumbers(t *testing.T) {
	dice := rand.New(rand.NewSource(6))
	for range 100000 {
		n := goodNode()
		may := true
		for _, f := range nodeNumbers() {
			if dice.Intn(2) == 0 {
				edges := f.edges()
				x := edges[dice.Intn(len(edges))]
				*f.of(&n) = x
				may = may && f.mayBe(x)
			}
		}
		n.Up, n.Drain = dice.Intn(2) == 0, dice.Intn(2) == 0
		n.Epoch, n.Seq = int(dice.Uint64()), int(dice.Uint64())
		nodeMay(t, n, may)
	}
}

// P6.2, R1: nodes of which nothing is set, or all is the least or the greatest number that there is.
func TestNodesFarOff(t *testing.T) {
	nodeMay(t, api.Node{}, false)
	nodeMay(t, api.Node{ID: 1}, false)
	nodeMay(t, api.Node{Boot: 1}, false)
	nodeMay(t, api.Node{ID: 1, Boot: 1}, true)
	nodeMay(t, api.Node{ID: 4, Boot: 1 << 40, Cap: res(1<<40, 1<<40)}, true)
	for _, n := range []int{math.MinInt, math.MaxInt, -1} {
		nodeMay(t, api.Node{ID: n, Cap: res(n, n), Up: true, Drain: true, Boot: n, Epoch: n, Seq: n}, false)
	}
}
