package ring_test

import (
	"math"
	"slices"
	"testing"

	"counterfoil/api"
	"counterfoil/ring"
)

// Sizes at the edges, odd ones, and powers of two.
var sizes = []int{1, 2, 3, 5, 8, 100, 4095, api.MaxSectors}

var wrongSizes = []int{math.MinInt, -api.MaxSectors, -1, 0, api.MaxSectors + 1, 2 * api.MaxSectors, 1 << 32, math.MaxInt}

// Numbers that are never positions, and those just outside a ring of that size.
func wrongPositions(size int) []int {
	return []int{math.MinInt, -size, -1, size, size + 1, 2 * size, 1 << 32, math.MaxInt}
}

// Some positions of a ring of that size, each once.
func somePositions(size int) []int {
	l := []int{0, 1, 2, size / 2, size - 2, size - 1}
	l = slices.DeleteFunc(l, func(p int) bool { return p < 0 || p >= size })
	slices.Sort(l)
	return slices.Compact(l)
}

// Step by step, as the definition says it.
func walked(size, from, n int) []int {
	l := []int{}
	for range n {
		l = append(l, from)
		if from++; from == size {
			from = 0
		}
	}
	return l
}

func expectAt(t *testing.T, size, from, n, want int) {
	t.Helper()
	if p, e := ring.At(size, from, n); p != want || e != api.OK {
		t.Errorf("At(%d, %d, %d) = %d, %d, want %d", size, from, n, p, e, want)
	}
}

func expectNoAt(t *testing.T, size, from, n int) {
	t.Helper()
	if p, e := ring.At(size, from, n); p != 0 || e != api.ErrArg {
		t.Errorf("At(%d, %d, %d) = %d, %d, want error 1", size, from, n, p, e)
	}
}

func expectGap(t *testing.T, size, from, to, want int) {
	t.Helper()
	if n, e := ring.Gap(size, from, to); n != want || e != api.OK {
		t.Errorf("Gap(%d, %d, %d) = %d, %d, want %d", size, from, to, n, e, want)
	}
}

func expectNoGap(t *testing.T, size, from, to int) {
	t.Helper()
	if n, e := ring.Gap(size, from, to); n != 0 || e != api.ErrArg {
		t.Errorf("Gap(%d, %d, %d) = %d, %d, want error 1", size, from, to, n, e)
	}
}

func expectPieces(t *testing.T, size, from, n int, want ...[2]int) {
	t.Helper()
	if l, e := ring.Pieces(size, from, n); !slices.Equal(l, want) || e != api.OK {
		t.Errorf("Pieces(%d, %d, %d) = %v, %d, want %v", size, from, n, l, e, want)
	}
}

func expectNoPieces(t *testing.T, size, from, n int) {
	t.Helper()
	if l, e := ring.Pieces(size, from, n); len(l) != 0 || e != api.ErrArg {
		t.Errorf("Pieces(%d, %d, %d) = %v, %d, want error 1", size, from, n, l, e)
	}
}

// P4.1 and P4.2: the chapter's examples.
func TestExamples(t *testing.T) {
	expectAt(t, 5, 3, 4, 2)
	expectGap(t, 5, 3, 1, 3)
	expectPieces(t, 5, 3, 4, [2]int{3, 2}, [2]int{0, 2})
	expectPieces(t, 5, 3, 2, [2]int{3, 2})
}

// P4.1: each position of small rings, up to three times round.
func TestAtOfSmallRings(t *testing.T) {
	for size := 1; size <= 12; size++ {
		for from := range size {
			for n, want := range walked(size, from, 3*size+1) {
				expectAt(t, size, from, n, want)
			}
		}
	}
}

// P4.1: great numbers of steps, up to MaxNum.
func TestAtOfManySteps(t *testing.T) {
	for _, size := range sizes {
		for _, from := range somePositions(size) {
			expectAt(t, size, from, 0, from)
			expectAt(t, size, from, size, from)
			expectAt(t, size, from, size-1, (from+size-1)%size)
			turns := api.MaxNum / size
			expectAt(t, size, from, turns*size, from)
			expectAt(t, size, from, api.MaxNum, walked(size, from, size)[api.MaxNum-turns*size])
		}
	}
	expectAt(t, 1, 0, api.MaxNum, 0)
	expectAt(t, 3, 0, api.MaxNum, 1)
	expectAt(t, 5, 4, api.MaxNum, 0)
	expectAt(t, api.MaxSectors, 4095, api.MaxNum, 4095)
	expectAt(t, api.MaxSectors, 4095, api.MaxNum-1, 4094)
	expectAt(t, api.MaxSectors, 4095, 1, 0)
}

// P4.1: too few steps or too many.
func TestAtRefusesSteps(t *testing.T) {
	for _, size := range sizes {
		for _, from := range somePositions(size) {
			for _, n := range []int{math.MinInt, -api.MaxNum, -size, -1, api.MaxNum + 1, api.MaxNum + size, 2 * api.MaxNum, math.MaxInt} {
				expectNoAt(t, size, from, n)
			}
		}
	}
}

// P4.1: each pair of positions of small rings, against a walk.
func TestGapOfSmallRings(t *testing.T) {
	for size := 1; size <= 12; size++ {
		for from := range size {
			for want, to := range walked(size, from, size) {
				expectGap(t, size, from, to, want)
			}
		}
	}
}

// P4.1: the edges of great rings.
func TestGapOfGreatRings(t *testing.T) {
	expectGap(t, 4096, 0, 4095, 4095)
	expectGap(t, 4096, 4095, 0, 1)
	expectGap(t, 4096, 4095, 4095, 0)
	expectGap(t, 4096, 4095, 4094, 4095)
	expectGap(t, 4096, 1, 0, 4095)
	expectGap(t, 4095, 4094, 0, 1)
	expectGap(t, 4095, 0, 4094, 4094)
}

// P4.1: a size that no ring has, in every function, with positions of all kinds.
func TestWrongSizes(t *testing.T) {
	for _, size := range wrongSizes {
		for _, at := range []int{math.MinInt, size, -1, 0, 1, 4095, 4096, math.MaxInt} {
			for _, n := range []int{-1, 0, 1, 5} {
				expectNoAt(t, size, at, n)
				expectNoPieces(t, size, at, n)
			}
			for _, to := range []int{size, -1, 0, 1, 4095} {
				expectNoGap(t, size, at, to)
			}
		}
	}
}

// P4.1: a number that is no position of the ring, in every function.
func TestWrongPositions(t *testing.T) {
	for _, size := range sizes {
		for _, wrong := range wrongPositions(size) {
			for _, n := range []int{math.MinInt, -1, 0, 1, size, api.MaxNum, math.MaxInt} {
				expectNoAt(t, size, wrong, n)
				expectNoPieces(t, size, wrong, n)
			}
			for _, right := range somePositions(size) {
				expectNoGap(t, size, wrong, right)
				expectNoGap(t, size, right, wrong)
			}
			expectNoGap(t, size, wrong, wrong)
		}
	}
}

// P4.2: none, one that ends with the ring, one that starts anew, and all of it.
func TestPieces(t *testing.T) {
	for _, size := range sizes {
		for _, from := range somePositions(size) {
			expectPieces(t, size, from, 0)
			expectPieces(t, size, from, 1, [2]int{from, 1})
			expectPieces(t, size, from, size-from, [2]int{from, size - from})
			if from > 0 {
				expectPieces(t, size, from, size-from+1, [2]int{from, size - from}, [2]int{0, 1})
				expectPieces(t, size, from, size, [2]int{from, size - from}, [2]int{0, from})
			}
		}
		expectPieces(t, size, 0, size, [2]int{0, size})
	}
}

// P4.2: fewer positions than none, or more than the ring has.
func TestPiecesRefuses(t *testing.T) {
	for _, size := range sizes {
		for _, from := range somePositions(size) {
			for _, n := range []int{math.MinInt, -size, -1, size + 1, 2 * size, api.MaxSectors + 1, api.MaxNum, math.MaxInt} {
				expectNoPieces(t, size, from, n)
			}
		}
	}
}

// P4.3: a gap's steps lead there.
func TestAtFollowsGap(t *testing.T) {
	for _, size := range sizes {
		for _, from := range somePositions(size) {
			for to := range size {
				n, e := ring.Gap(size, from, to)
				if e != api.OK || n < 0 || n >= size {
					t.Fatalf("Gap(%d, %d, %d) = %d, %d", size, from, to, n, e)
				}
				expectAt(t, size, from, n, to)
			}
		}
	}
}

// P4.2 and P4.3: the pieces hold the positions of a walk, in order and each once, in as few pieces as can be.
func TestPiecesAgainstWalk(t *testing.T) {
	for size := 1; size <= 12; size++ {
		for from := range size {
			for n := 0; n <= size; n++ {
				comparePieces(t, size, from, n)
			}
		}
	}
	for _, size := range sizes {
		for _, from := range somePositions(size) {
			for _, n := range []int{0, 1, size / 2, size - 1, size} {
				comparePieces(t, size, from, n)
			}
		}
	}
}

func comparePieces(t *testing.T, size, from, n int) {
	t.Helper()
	pieces, e := ring.Pieces(size, from, n)
	held := []int{}
	for _, p := range pieces {
		if p[1] < 1 {
			t.Errorf("Pieces(%d, %d, %d) has an empty piece: %v", size, from, n, pieces)
		}
		for i := range p[1] {
			held = append(held, p[0]+i)
		}
	}
	if want := walked(size, from, n); !slices.Equal(held, want) || e != api.OK {
		t.Errorf("Pieces(%d, %d, %d) = %v, %d", size, from, n, pieces, e)
	}
	count := 0
	if n > 0 {
		count++
	}
	if from+n > size {
		count++
	}
	if len(pieces) != count {
		t.Errorf("Pieces(%d, %d, %d): %d pieces, want %d", size, from, n, len(pieces), count)
	}
}

// R1 and R4: each answer is new memory, so that writing to one shows in no other.
func TestPiecesAreNew(t *testing.T) {
	first, _ := ring.Pieces(5, 3, 4)
	for i := range first {
		first[i] = [2]int{-1, -1}
	}
	expectPieces(t, 5, 3, 4, [2]int{3, 2}, [2]int{0, 2})
}
