package line_test

import (
	"math"
	"slices"
	"testing"

	"counterfoil/api"
	"counterfoil/line"
)

const most = api.MaxNum

// branches makes a line of pairs: Epoch, At.
func branches(pairs ...int) []api.Branch {
	var l []api.Branch
	for i := 0; i < len(pairs); i += 2 {
		l = append(l, api.Branch{Epoch: pairs[i], At: pairs[i+1]})
	}
	return l
}

func pos(seq int, pairs ...int) api.Pos { return api.Pos{Line: branches(pairs...), Seq: seq} }

// A line of n branches with the epochs 3, 6, 9 and so on, each of ten commits.
func long(n int) []api.Branch {
	var l []api.Branch
	for i := range n {
		l = append(l, api.Branch{Epoch: 3 * (i + 1), At: 10 * i})
	}
	return l
}

func rightLines() map[string][]api.Branch {
	return map[string][]api.Branch{
		"one branch":         branches(1, 0),
		"the greatest epoch": branches(most, 0),
		"two branches":       branches(1, 0, 2, 5),
		"a branch at 0":      branches(1, 0, 2, 0),
		"branches at one At": branches(1, 0, 2, 7, 3, 7, 4, 7),
		"gaps":               branches(4, 0, 9, 1, 100, 1000),
		"the greatest At":    branches(1, 0, 2, most),
		"the greatest twice": branches(most-2, 0, most-1, most, most, most),
		"63 branches":        long(63),
		"64 branches":        long(64),
	}
}

func wrongLines() map[string][]api.Branch {
	return map[string][]api.Branch{
		"nil":                  nil,
		"empty":                {},
		"epoch 0":              branches(0, 0),
		"epoch 0, right later": branches(0, 0, 1, 0),
		"an epoch below 0":     branches(-1, 0),
		"the least epoch":      branches(math.MinInt, 0),
		"epoch 2^40 + 1":       branches(most+1, 0),
		"epoch 2^40 + 1 later": branches(1, 0, most+1, 0),
		"the greatest int":     branches(math.MaxInt, 0),
		"the first At 1":       branches(1, 1),
		"the first At 1 of 2":  branches(1, 1, 2, 1),
		"the first At below 0": branches(1, -1),
		"the least At":         branches(1, math.MinInt),
		"an At below 0 later":  branches(1, 0, 2, -1),
		"At 2^40 + 1":          branches(1, 0, 2, most+1),
		"the greatest int, At": branches(1, 0, 2, math.MaxInt),
		"an epoch twice":       branches(1, 0, 1, 0),
		"an epoch twice later": branches(1, 0, 2, 3, 2, 4),
		"falling epochs":       branches(2, 0, 1, 1),
		"falling epochs later": branches(1, 0, 5, 1, 4, 2),
		"falling Ats":          branches(1, 0, 2, 5, 3, 4),
		"65 branches":          long(65),
		"very many branches":   long(100000),
	}
}

// Positions that are not valid though their lines are, ahead of those whose lines are not.
func wrongPositions() map[string]api.Pos {
	m := map[string]api.Pos{
		"no position":               {},
		"Seq -1":                    pos(-1, 1, 0),
		"the least Seq":             pos(math.MinInt, 1, 0),
		"Seq ahead of the last At":  pos(4, 1, 0, 2, 5),
		"Seq 0 ahead of the last":   pos(0, 1, 0, 2, 1),
		"Seq ahead of the greatest": pos(most-1, 1, 0, 2, most),
		"Seq 2^40 + 1":              pos(most+1, 1, 0),
		"Seq 2^40 + 1, two":         pos(most+1, 1, 0, 2, most),
		"the greatest Seq":          pos(math.MaxInt, 1, 0, 2, 5),
	}
	for name, l := range wrongLines() {
		for _, seq := range []int{-1, 0, 5, 2000, most} {
			m[name+", Seq "+api.Digits(seq)] = api.Pos{Line: l, Seq: seq}
		}
	}
	return m
}

// P11.1.
func TestRight(t *testing.T) {
	for name, l := range rightLines() {
		if !line.Right(l) {
			t.Errorf("%s: Right is false", name)
		}
	}
	for name, l := range wrongLines() {
		if line.Right(l) {
			t.Errorf("%s: Right is true", name)
		}
	}
}

// P11.1: one wrong branch is enough, wherever it stands.
func TestRightSeesEachBranch(t *testing.T) {
	for i := range 64 {
		for _, b := range []api.Branch{
			{Epoch: 3 * i, At: 10 * i}, {Epoch: 3*i + 6, At: 10 * i}, {Epoch: 0, At: 10 * i}, {Epoch: -1, At: 10 * i}, {Epoch: most + 1, At: 10 * i},
			{Epoch: 3*i + 3, At: 10*i - 11}, {Epoch: 3*i + 3, At: 10*i + 11}, {Epoch: 3*i + 3, At: -1}, {Epoch: 3*i + 3, At: most + 1},
		} {
			l := long(64)
			l[i] = b
			// The last branch has none behind it that would be too small.
			want := i == 63 && (b.Epoch == 3*i+6 || b.At == 10*i+11)
			if line.Right(l) != want {
				t.Errorf("Right is %v with %v at %d", !want, b, i)
			}
		}
	}
}

// P11.1: all short lists of small branches, by the words of the definition.
func TestRightOfAllShortLists(t *testing.T) {
	var few []api.Branch
	for epoch := -1; epoch <= 4; epoch++ {
		for at := -1; at <= 3; at++ {
			few = append(few, api.Branch{Epoch: epoch, At: at})
		}
	}
	for _, a := range few {
		right := a.Epoch >= 1 && a.At == 0
		expectRight(t, []api.Branch{a}, right)
		for _, b := range few {
			right2 := right && b.Epoch > a.Epoch && b.At >= a.At
			expectRight(t, []api.Branch{a, b}, right2)
			for _, c := range few {
				expectRight(t, []api.Branch{a, b, c}, right2 && c.Epoch > b.Epoch && c.At >= b.At)
			}
		}
	}
}

func expectRight(t *testing.T, l []api.Branch, want bool) {
	t.Helper()
	if line.Right(l) != want {
		t.Errorf("Right(%v) is %v", l, !want)
	}
}

// P11.1: every valid line, at each edge of Seq.
func TestPlaced(t *testing.T) {
	for name, l := range rightLines() {
		at := l[len(l)-1].At
		for _, seq := range []int{at, min(at+1, most), max(at, most-1), most} {
			if !line.Placed(api.Pos{Line: l, Seq: seq}) {
				t.Errorf("%s: Placed is false with Seq %d", name, seq)
			}
		}
		for _, seq := range []int{math.MinInt, -1, at - 1, most + 1, 1 << 41, math.MaxInt} {
			if line.Placed(api.Pos{Line: l, Seq: seq}) {
				t.Errorf("%s: Placed is true with Seq %d", name, seq)
			}
		}
	}
	for name, p := range wrongPositions() {
		if line.Placed(p) {
			t.Errorf("%s: Placed is true", name)
		}
	}
}

// P11.1.
func TestLast(t *testing.T) {
	for name, l := range rightLines() {
		if n := line.Last(l); n != l[len(l)-1].Epoch {
			t.Errorf("%s: Last = %d", name, n)
		}
	}
	for name, l := range wrongLines() {
		if n := line.Last(l); n != 0 {
			t.Errorf("%s: Last = %d", name, n)
		}
	}
}

// P11.1: the least and the greatest branch that can follow.
func TestGrow(t *testing.T) {
	for _, c := range []struct {
		l         []api.Branch
		epoch, at int
		want      []api.Branch
	}{
		{branches(1, 0), 2, 0, branches(1, 0, 2, 0)},
		{branches(1, 0), 2, 5, branches(1, 0, 2, 5)},
		{branches(1, 0), most, most, branches(1, 0, most, most)},
		{branches(1, 0, 2, 5), 4, 8, branches(1, 0, 2, 5, 4, 8)},
		{branches(1, 0, 2, 5), 3, 5, branches(1, 0, 2, 5, 3, 5)},
		{branches(1, 0, most-1, most), most, most, branches(1, 0, most-1, most, most, most)},
		{long(62), 189, 620, long(63)},
		{long(63), 192, 630, long(64)},
	} {
		if got, e := line.Grow(c.l, c.epoch, c.at); e != api.OK || !slices.Equal(got, c.want) {
			t.Errorf("Grow(%v, %d, %d) = %v, %d", c.l, c.epoch, c.at, got, e)
		}
	}
}

// P11.1: a wrong branch comes ahead of a line that is full.
func TestGrowRefuses(t *testing.T) {
	for name, l := range rightLines() {
		last := l[len(l)-1]
		for _, epoch := range []int{math.MinInt, -1, 0, last.Epoch - 1, last.Epoch, most + 1, math.MaxInt} {
			for _, at := range []int{-1, last.At, most, most + 1} {
				expectNoGrow(t, name, l, epoch, at, api.ErrArg)
			}
		}
		for _, at := range []int{math.MinInt, -1, last.At - 1, most + 1, math.MaxInt} {
			for _, epoch := range []int{last.Epoch + 1, most} {
				expectNoGrow(t, name, l, epoch, at, api.ErrArg)
			}
		}
	}
	for name, l := range wrongLines() {
		for _, b := range branches(1, 0, 2, 5, 7, 7, most, most, 0, 0, -1, -1, most+1, most+1) {
			expectNoGrow(t, name, l, b.Epoch, b.At, api.ErrArg)
		}
	}
	for _, b := range branches(193, 630, 193, 631, most, most) {
		expectNoGrow(t, "64 branches", long(64), b.Epoch, b.At, api.ErrFull)
	}
}

func expectNoGrow(t *testing.T, name string, l []api.Branch, epoch, at int, want api.Errno) {
	t.Helper()
	if got, e := line.Grow(l, epoch, at); len(got) != 0 || e != want {
		t.Errorf("%s: Grow by %d at %d = %v, %d, want error %d", name, epoch, at, got, e, want)
	}
}

// P11.1: a line that is grown branch by branch.
func TestGrowToTheLimit(t *testing.T) {
	l := long(1)
	for n := 1; n < 64; n++ {
		var e api.Errno
		if l, e = line.Grow(l, 3*n+3, 10*n); e != api.OK || !slices.Equal(l, long(n+1)) {
			t.Fatalf("Grow to %d branches = %v, %d", n+1, l, e)
		}
	}
	expectNoGrow(t, "grown", l, 195, 640, api.ErrFull)
}

// P11.2: commits at both sides of each branch.
func TestEpoch(t *testing.T) {
	for _, c := range []struct {
		p       api.Pos
		s, want int
	}{
		{pos(8, 1, 0, 2, 5), 1, 1},
		{pos(8, 1, 0, 2, 5), 5, 1},
		{pos(8, 1, 0, 2, 5), 6, 2},
		{pos(8, 1, 0, 2, 5), 8, 2},
		{pos(5, 1, 0, 2, 5), 5, 1},
		{pos(3, 1, 0, 2, 0), 1, 2},
		{pos(9, 1, 0, 2, 7, 3, 7, 4, 7), 7, 1},
		{pos(9, 1, 0, 2, 7, 3, 7, 4, 7), 8, 4},
		{pos(9, 1, 0, 2, 7, 3, 8, 4, 8), 8, 2},
		{pos(9, 1, 0, 2, 7, 3, 8, 4, 8), 9, 4},
		{pos(most, most, 0), most, most},
		{pos(most, 1, 0, 2, most), most, 1},
		{pos(most, 1, 0, 2, most-1), most, 2},
	} {
		if n := line.Epoch(c.p, c.s); n != c.want {
			t.Errorf("Epoch(%v, %d) = %d, want %d", c.p, c.s, n, c.want)
		}
	}
	for s := 1; s <= 640; s++ {
		if n := line.Epoch(api.Pos{Line: long(64), Seq: 640}, s); n != 3*((s+9)/10) {
			t.Errorf("Epoch of commit %d = %d", s, n)
		}
	}
}

// P11.2: commits that a position does not have, and positions that are not valid.
func TestNoEpoch(t *testing.T) {
	for _, p := range []api.Pos{pos(0, 1, 0), pos(1, 1, 0), pos(8, 1, 0, 2, 5), pos(5, 1, 0, 2, 5), pos(most, 1, 0)} {
		for _, s := range []int{math.MinInt, -1, 0, p.Seq + 1, most + 1, math.MaxInt} {
			if n := line.Epoch(p, s); n != 0 {
				t.Errorf("Epoch(%v, %d) = %d", p, s, n)
			}
		}
	}
	for name, p := range wrongPositions() {
		for _, s := range []int{-1, 0, 1, 2, 5, p.Seq, most} {
			if n := line.Epoch(p, s); n != 0 {
				t.Errorf("%s: Epoch of %d = %d", name, s, n)
			}
		}
	}
}

// P11.2: positions that differ in one number, or by one branch.
func TestSame(t *testing.T) {
	for name, l := range rightLines() {
		p := api.Pos{Line: l, Seq: most}
		if !line.Same(p, api.Pos{Line: slices.Clone(l), Seq: most}) {
			t.Errorf("%s: Same is false", name)
		}
		for other, m := range rightLines() {
			if other != name && line.Same(p, api.Pos{Line: m, Seq: most}) {
				t.Errorf("%s, %s: Same is true", name, other)
			}
		}
	}
	p := pos(8, 1, 0, 3, 5)
	for _, q := range []api.Pos{
		pos(7, 1, 0, 3, 5), pos(9, 1, 0, 3, 5), pos(8, 2, 0, 3, 5), pos(8, 1, 0, 2, 5), pos(8, 1, 0, 4, 5),
		pos(8, 1, 0, 3, 4), pos(8, 1, 0, 3, 6), pos(8, 1, 0), pos(8, 3, 0), pos(8, 1, 0, 3, 5, 4, 8), pos(8, 1, 0, 2, 5, 3, 5),
	} {
		if line.Same(p, q) || line.Same(q, p) {
			t.Errorf("Same of %v and %v is true", p, q)
		}
	}
}

func expectCommon(t *testing.T, a, b api.Pos, want int) {
	t.Helper()
	if n := line.Common(a, b); n != want {
		t.Errorf("Common(%v, %v) = %d, want %d", a, b, n, want)
	}
	if n := line.Common(b, a); n != want {
		t.Errorf("Common(%v, %v) = %d, want %d", b, a, n, want)
	}
	if ahead := line.Ahead(a, b); ahead != (want == a.Seq) {
		t.Errorf("Ahead(%v, %v) is %v", a, b, ahead)
	}
	if ahead := line.Ahead(b, a); ahead != (want == b.Seq) {
		t.Errorf("Ahead(%v, %v) is %v", b, a, ahead)
	}
}

// P11.3, P11.5.
func TestCommon(t *testing.T) {
	for _, c := range []struct {
		a, b api.Pos
		want int
	}{
		{pos(8, 1, 0, 2, 5), pos(9, 1, 0), 5},
		{pos(8, 1, 0, 2, 5), pos(4, 1, 0), 4},
		{pos(8, 1, 0, 2, 5), pos(5, 1, 0), 5},
		{pos(8, 1, 0, 2, 5), pos(1, 2, 0), -1},
		{pos(0, 1, 0), pos(0, 1, 0), 0},
		{pos(7, 1, 0), pos(7, 1, 0), 7},
		{pos(most, 1, 0), pos(most, 1, 0), most},
		{pos(most, 1, 0, 2, most), pos(most, 1, 0), most},
		{pos(0, 1, 0), pos(0, 2, 0), -1},
		{pos(9, 1, 0, 3, 0), pos(9, 2, 0, 3, 0), -1},
		{pos(9, 1, 0), pos(9, 1, 0, 2, 0), 0},
		// The same epoch began elsewhere.
		{pos(9, 1, 0, 2, 5), pos(9, 1, 0, 2, 7), 5},
		// Both sites started an epoch of their own.
		{pos(9, 1, 0, 2, 5), pos(9, 1, 0, 3, 5), 5},
		{pos(9, 1, 0, 2, 6), pos(9, 1, 0, 3, 4), 4},
		// A later branch that is alike does not bring them together again.
		{pos(9, 1, 0, 2, 3, 4, 6), pos(9, 1, 0, 3, 4, 4, 6), 3},
		// The branch at the index of divergence counts, not the ones behind it.
		{pos(9, 1, 0, 2, 3, 4, 6, 5, 7), pos(9, 1, 0, 2, 3), 6},
		{pos(9, 1, 0, 2, 3, 4, 6), pos(4, 1, 0, 2, 3), 4},
		{pos(9, 1, 0, 2, 3, 4, 6), pos(3, 1, 0, 2, 3), 3},
	} {
		expectCommon(t, c.a, c.b, c.want)
	}
	whole := api.Pos{Line: long(64), Seq: 640}
	for n := 1; n < 64; n++ {
		expectCommon(t, whole, api.Pos{Line: long(n), Seq: most}, 10*n)
		expectCommon(t, whole, api.Pos{Line: long(n), Seq: 10*n - 3}, 10*n-3)
		other := slices.Clone(whole.Line)
		other[n].Epoch--
		expectCommon(t, whole, api.Pos{Line: other, Seq: 700}, 10*n)
		other[n] = api.Branch{Epoch: whole.Line[n].Epoch, At: 10*n - 4}
		expectCommon(t, whole, api.Pos{Line: other, Seq: 700}, 10*n-4)
	}
}

// P11.2, P11.3: positions that are not valid have nothing in common, not even with themselves.
func TestWrongPositions(t *testing.T) {
	right := []api.Pos{pos(0, 1, 0), pos(8, 1, 0, 2, 5), pos(9, 1, 0), pos(most, 1, 0, 2, most)}
	for name, p := range wrongPositions() {
		for _, q := range append(right, p) {
			if n := line.Common(p, q); n != -1 {
				t.Errorf("%s, %v: Common = %d", name, q, n)
			}
			if n := line.Common(q, p); n != -1 {
				t.Errorf("%v, %s: Common = %d", q, name, n)
			}
			if line.Ahead(p, q) || line.Ahead(q, p) {
				t.Errorf("%s, %v: Ahead is true", name, q)
			}
			if line.Same(p, q) || line.Same(q, p) {
				t.Errorf("%s, %v: Same is true", name, q)
			}
		}
	}
}

// A history told step by step: the epochs as they begin, as numbers below 0, and the commits between them.
func told(p api.Pos) []int {
	var l []int
	done := 0
	for _, b := range p.Line {
		for ; done < b.At; done++ {
			l = append(l, done+1)
		}
		l = append(l, -b.Epoch)
	}
	for ; done < p.Seq; done++ {
		l = append(l, done+1)
	}
	return l
}

// The commits ahead of the first step that two histories do not share, or -1 if that is the first one of all.
func shared(a, b []int) int {
	n := -1
	for i := 0; i < len(a) && i < len(b) && a[i] == b[i]; i++ {
		n = max(n, a[i], 0)
	}
	return n
}

// All positions with epochs up to 4 and up to 4 commits.
func allSmall() []api.Pos {
	var all []api.Pos
	var grow func(l []api.Branch)
	grow = func(l []api.Branch) {
		last := l[len(l)-1]
		for seq := last.At; seq <= 4; seq++ {
			all = append(all, api.Pos{Line: l, Seq: seq})
		}
		for epoch := last.Epoch + 1; epoch <= 4; epoch++ {
			for at := last.At; at <= 4; at++ {
				grow(append(slices.Clone(l), api.Branch{Epoch: epoch, At: at}))
			}
		}
	}
	for epoch := 1; epoch <= 4; epoch++ {
		grow(branches(epoch, 0))
	}
	return all
}

// P11.2, P11.3, P11.5: all pairs of small positions, against their histories step by step.
func TestAllSmallPositions(t *testing.T) {
	all := allSmall()
	steps := make([][]int, len(all))
	for i, p := range all {
		steps[i] = told(p)
		expectEpochs(t, p, steps[i])
	}
	for i, a := range all {
		for j, b := range all {
			n := shared(steps[i], steps[j])
			expectCommon(t, a, b, n)
			for s := 1; s <= n; s++ {
				if line.Epoch(a, s) != line.Epoch(b, s) {
					t.Errorf("commit %d of %v and %v: other epochs", s, a, b)
				}
			}
			if same := line.Same(a, b); same != (i == j) {
				t.Errorf("Same(%v, %v) is %v", a, b, same)
			}
		}
	}
}

func expectEpochs(t *testing.T, p api.Pos, steps []int) {
	t.Helper()
	if !line.Placed(p) {
		t.Errorf("Placed(%v) is false", p)
	}
	epoch := 0
	for _, s := range steps {
		if s < 0 {
			epoch = -s
		} else if n := line.Epoch(p, s); n != epoch {
			t.Errorf("Epoch(%v, %d) = %d, want %d", p, s, n, epoch)
		}
	}
}

// P11.4: the epochs of both sites in turn, and the greatest ones.
func TestNext(t *testing.T) {
	for known := range 1000 {
		odd, even := known+1, known+1
		if known%2 == 0 {
			even++
		} else {
			odd++
		}
		expectNext(t, known, 0, odd)
		expectNext(t, known, 1, even)
	}
	expectNext(t, 2, 0, 3)
	expectNext(t, 2, 1, 4)
	expectNext(t, most-4, 0, most-3)
	expectNext(t, most-4, 1, most-2)
	expectNext(t, most-3, 0, most-1)
	expectNext(t, most-3, 1, most-2)
	expectNext(t, most-2, 0, most-1)
	expectNext(t, most-2, 1, most)
}

// P11.4.
func TestNoNext(t *testing.T) {
	for _, known := range []int{math.MinInt, -2, -1, most - 1, most, most + 1, math.MaxInt - 1, math.MaxInt} {
		for site := -3; site <= 3; site++ {
			expectNext(t, known, site, 0)
		}
	}
	for _, known := range []int{0, 1, 2, 3, most - 3, most - 2} {
		for _, site := range []int{math.MinInt, -2, -1, 2, 3, math.MaxInt} {
			expectNext(t, known, site, 0)
		}
	}
}

func expectNext(t *testing.T, known, site, want int) {
	t.Helper()
	if n := line.Next(known, site); n != want {
		t.Errorf("Next(%d, %d) = %d, want %d", known, site, n, want)
	}
}

// R1: what was handed in stays as it was, and so does what lies behind it.
func TestArgumentsStay(t *testing.T) {
	all := branches(1, 0, 2, 5, 3, 8, 9, 9, 0, 0)
	before := slices.Clone(all)
	for n := range len(all) + 1 {
		a, b := api.Pos{Line: all[:n], Seq: 9}, api.Pos{Line: all[:1], Seq: 9}
		line.Right(a.Line)
		line.Placed(a)
		line.Grow(a.Line, 20, 20)
		line.Grow(a.Line, 2, 2)
		line.Last(a.Line)
		line.Epoch(a, 6)
		line.Common(a, b)
		line.Ahead(b, a)
		line.Same(a, a)
	}
	if !slices.Equal(all, before) {
		t.Errorf("the argument is changed: %v", all)
	}
}

// R1: two lines that grow from one share no memory with it, nor with each other.
func TestGrownLinesAreNew(t *testing.T) {
	l := append(make([]api.Branch, 0, 8), branches(1, 0, 2, 5)...)
	first, _ := line.Grow(l, 3, 6)
	second, _ := line.Grow(l, 4, 7)
	more, _ := line.Grow(first, 5, 9)
	other, _ := line.Grow(first, 6, 9)
	for _, g := range [][]api.Branch{l, second, more, other} {
		clear(g[:cap(g)])
	}
	if !slices.Equal(first, branches(1, 0, 2, 5, 3, 6)) {
		t.Errorf("the line is changed: %v", first)
	}
}
