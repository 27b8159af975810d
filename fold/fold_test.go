package fold_test

import (
	"math"
	"math/rand"
	"slices"
	"strconv"
	"strings"
	"testing"

	"counterfoil/api"
	"counterfoil/fold"
	"counterfoil/vols"
)

func write(v, block int, data string) api.Write { return api.Write{Vol: v, Block: block, Data: data} }

func mark(v, block int) api.Mark { return api.Mark{Vol: v, Block: block} }

func sample() []api.Vol {
	return []api.Vol{{ID: 3, Blocks: []string{"c"}}, {ID: 7, Blocks: []string{"", "\x00\xff", "12345678"}}}
}

// Lists with what they fold to.
func cases() map[string][2][]api.Write {
	least, most := math.MinInt, math.MaxInt
	return map[string][2][]api.Write{
		"nil":   {nil, nil},
		"empty": {{}, nil},
		"one":   {{write(0, 0, "")}, {write(0, 0, "")}},
		"the chapter's": {
			{write(2, 0, "a"), write(1, 3, "b"), write(2, 0, "c")},
			{write(1, 3, "b"), write(2, 0, "c")}},
		"folded already": {
			{write(1, 0, "a"), write(1, 1, "b"), write(2, 0, "c")},
			{write(1, 0, "a"), write(1, 1, "b"), write(2, 0, "c")}},
		"falling": {
			{write(2, 1, "a"), write(2, 0, "b"), write(1, 9, "c"), write(1, 8, "d")},
			{write(1, 8, "d"), write(1, 9, "c"), write(2, 0, "b"), write(2, 1, "a")}},
		"Vol counts before Block": {
			{write(2, 0, "a"), write(1, 5, "b")},
			{write(1, 5, "b"), write(2, 0, "a")}},
		"Block counts within Vol": {
			{write(1, 5, "a"), write(1, 0, "b")},
			{write(1, 0, "b"), write(1, 5, "a")}},
		"Vol and Block are not exchanged": {
			{write(1, 2, "a"), write(2, 1, "b")},
			{write(1, 2, "a"), write(2, 1, "b")}},
		"the same write twice": {
			{write(1, 1, "x"), write(1, 1, "x")},
			{write(1, 1, "x")}},
		"the last one, not the greatest": {
			{write(1, 1, "zz"), write(1, 1, "zzz"), write(1, 1, "a")},
			{write(1, 1, "a")}},
		"the last one is empty": {
			{write(1, 1, "x"), write(1, 1, "")},
			{write(1, 1, "")}},
		"the first one is empty": {
			{write(1, 1, ""), write(1, 1, "x")},
			{write(1, 1, "x")}},
		"many writes to one block between others": {
			{write(1, 1, "a"), write(0, 1, "b"), write(1, 1, "c"), write(2, 1, "d"), write(1, 1, "e"), write(0, 1, "f")},
			{write(0, 1, "f"), write(1, 1, "e"), write(2, 1, "d")}},
		"numbers below 0": {
			{write(0, 0, "a"), write(-1, 5, "b"), write(0, -1, "c"), write(-2, 0, "d"), write(-1, -5, "e")},
			{write(-2, 0, "d"), write(-1, -5, "e"), write(-1, 5, "b"), write(0, -1, "c"), write(0, 0, "a")}},
		// Their differences do not fit into an int.
		"the least and the greatest Vol": {
			{write(most, 0, "a"), write(least, 0, "b"), write(1, 0, "c"), write(least, 0, "d")},
			{write(least, 0, "d"), write(1, 0, "c"), write(most, 0, "a")}},
		"the least and the greatest Block": {
			{write(5, most, "a"), write(5, least, "b"), write(5, -1, "c"), write(5, most, "d")},
			{write(5, least, "b"), write(5, -1, "c"), write(5, most, "d")}},
		"equal in their low bits": {
			{write(1<<32+1, 0, "a"), write(1, 1<<32, "b"), write(1, 0, "c"), write(257, 0, "d")},
			{write(1, 0, "c"), write(1, 1<<32, "b"), write(257, 0, "d"), write(1<<32+1, 0, "a")}},
		"longer than any block": {
			{write(1, 0, "a"), write(1, 0, strings.Repeat("x", 70000))},
			{write(1, 0, strings.Repeat("x", 70000))}},
	}
}

// P8.1.
func TestFold(t *testing.T) {
	for name, c := range cases() {
		if got := fold.Fold(c[0]); !slices.Equal(got, c[1]) {
			t.Errorf("%s: Fold = %v, want %v", name, got, c[1])
		}
	}
}

// P8.1.
func TestFolded(t *testing.T) {
	for name, c := range cases() {
		if got := fold.Folded(c[0]); got != slices.Equal(c[0], c[1]) {
			t.Errorf("%s: Folded is %v", name, got)
		}
		if !fold.Folded(c[1]) {
			t.Errorf("%s: Folded is false for the result", name)
		}
	}
}

// P8.1: one pair out of order or alike is enough, wherever it stands.
func TestFoldedSeesEachPair(t *testing.T) {
	for n := 2; n <= 40; n++ {
		ws := make([]api.Write, n)
		for i := range ws {
			ws[i] = write(i/4-3, i%4-2, strconv.Itoa(n-i))
		}
		if !fold.Folded(ws) {
			t.Errorf("%d writes: Folded is false", n)
		}
		for i := 1; i < n; i++ {
			swapped, twice := slices.Clone(ws), slices.Clone(ws)
			swapped[i-1], swapped[i] = ws[i], ws[i-1]
			twice[i].Vol, twice[i].Block = ws[i-1].Vol, ws[i-1].Block
			if fold.Folded(swapped) || fold.Folded(twice) {
				t.Errorf("%d writes: Folded is true for a pair that ends at %d", n, i)
			}
		}
	}
}

// The chapter's example.
func TestExample(t *testing.T) {
	ws := fold.Fold([]api.Write{write(2, 0, "a"), write(1, 3, "b"), write(2, 0, "c")})
	if n := fold.Bytes(ws); n != 18 || !slices.Equal(ws, []api.Write{write(1, 3, "b"), write(2, 0, "c")}) {
		t.Errorf("%v of %d bytes", ws, n)
	}
}

// P8.1: wherever a list is parted, its parts merge to what it folds to; so do its folded parts (P8.3).
func TestMerge(t *testing.T) {
	for name, c := range cases() {
		for i := range len(c[0]) + 1 {
			a, b := c[0][:i], c[0][i:]
			for _, l := range [][]api.Write{a, fold.Fold(a)} {
				for _, r := range [][]api.Write{b, fold.Fold(b)} {
					if got := fold.Merge(l, r); !slices.Equal(got, c[1]) {
						t.Errorf("%s: Merge(%v, %v) = %v, want %v", name, l, r, got, c[1])
					}
				}
			}
		}
	}
}

// P8.1: the second list prevails.
func TestMergeOrder(t *testing.T) {
	a, b := []api.Write{write(1, 0, "a"), write(3, 0, "b")}, []api.Write{write(3, 0, "c"), write(2, 0, "d")}
	if got := fold.Merge(a, b); !slices.Equal(got, []api.Write{write(1, 0, "a"), write(2, 0, "d"), write(3, 0, "c")}) {
		t.Errorf("Merge(a, b) = %v", got)
	}
	if got := fold.Merge(b, a); !slices.Equal(got, []api.Write{write(1, 0, "a"), write(2, 0, "d"), write(3, 0, "b")}) {
		t.Errorf("Merge(b, a) = %v", got)
	}
}

// P8.1.
func TestMarks(t *testing.T) {
	for name, c := range cases() {
		var want []api.Mark
		for _, w := range c[1] {
			want = append(want, mark(w.Vol, w.Block))
		}
		if got := fold.Marks(c[0]); !slices.Equal(got, want) {
			t.Errorf("%s: Marks = %v, want %v", name, got, want)
		}
	}
}

// P8.1: each write counts, and bytes count, not runes.
func TestBytes(t *testing.T) {
	for _, c := range []struct {
		ws   []api.Write
		want int
	}{
		{nil, 0},
		{[]api.Write{}, 0},
		{[]api.Write{write(1, 0, "")}, 8},
		{[]api.Write{write(math.MaxInt, math.MinInt, "")}, 8},
		{[]api.Write{write(1, 0, "12345678")}, 16},
		{[]api.Write{write(1, 0, "123456789")}, 17},
		{[]api.Write{write(1, 0, "\x00\xff")}, 10},
		{[]api.Write{write(1, 0, "\u20ac")}, 11},
		{[]api.Write{write(1, 0, "a"), write(1, 0, "bc")}, 19},
		{[]api.Write{write(2, 0, "a"), write(1, 0, ""), write(2, 0, "a")}, 26},
		{[]api.Write{write(1, 0, strings.Repeat("x", 70000))}, 70008},
		{slices.Repeat([]api.Write{write(1, 0, "abc")}, 100000), 1100000},
	} {
		if got := fold.Bytes(c.ws); got != c.want {
			t.Errorf("Bytes of %d writes = %d, want %d", len(c.ws), got, c.want)
		}
	}
}

// P8.2: in the order of the marks, and as often as they name a block.
func TestPick(t *testing.T) {
	for _, c := range []struct {
		marks []api.Mark
		want  []api.Write
	}{
		{nil, nil},
		{[]api.Mark{}, nil},
		{[]api.Mark{mark(3, 0)}, []api.Write{write(3, 0, "c")}},
		{[]api.Mark{mark(7, 0)}, []api.Write{write(7, 0, "")}},
		{[]api.Mark{mark(7, 2), mark(3, 0), mark(7, 1)}, []api.Write{write(7, 2, "12345678"), write(3, 0, "c"), write(7, 1, "\x00\xff")}},
		{[]api.Mark{mark(7, 1), mark(7, 1)}, []api.Write{write(7, 1, "\x00\xff"), write(7, 1, "\x00\xff")}},
	} {
		got, e := fold.Pick(sample(), c.marks)
		if e != api.OK || !slices.Equal(got, c.want) {
			t.Errorf("Pick(%v) = %v, %d, want %v", c.marks, got, e, c.want)
		}
	}
	if got, e := fold.Pick(nil, nil); e != api.OK || len(got) != 0 {
		t.Errorf("Pick of nothing = %v, %d", got, e)
	}
}

// P8.2: the first mark that names no block decides, whatever stands around it, and nothing else is returned.
func TestPickRefuses(t *testing.T) {
	good := mark(7, 1)
	none := []api.Mark{mark(0, 0), mark(-3, 0), mark(4, 0), mark(8, -1), mark(259, 0), mark(1<<32+3, 0), mark(math.MinInt, 0), mark(math.MaxInt, 99)}
	outside := []api.Mark{mark(3, 1), mark(3, -1), mark(7, 3), mark(7, 32), mark(7, 1<<32), mark(7, math.MinInt), mark(7, math.MaxInt)}
	for _, a := range none {
		for _, b := range outside {
			for _, l := range [][]api.Mark{{a}, {good, a}, {a, good}, {a, b}, {good, good, a, good, b}} {
				expectError(t, sample(), l, api.ErrNone)
			}
			for _, l := range [][]api.Mark{{b}, {good, b}, {b, good}, {b, a}, {good, good, b, good, a}} {
				expectError(t, sample(), l, api.ErrRange)
			}
		}
	}
	expectError(t, nil, []api.Mark{good}, api.ErrNone)
}

// P8.2: volumes that are not valid come first, with marks of every kind and without any.
func TestPickOfWrongVolumes(t *testing.T) {
	wrong := [][]api.Vol{
		{{ID: 0, Blocks: []string{"a"}}},
		{{ID: 256, Blocks: []string{"a"}}},
		{{ID: 1}},
		{{ID: 1, Blocks: make([]string, 33)}},
		{{ID: 1, Blocks: []string{"a", "123456789"}}},
		{{ID: 1, Blocks: []string{"a"}}, {ID: 1, Blocks: []string{"a"}}},
		{{ID: 2, Blocks: []string{"a"}}, {ID: 1, Blocks: []string{"a"}}},
		{{ID: 1, Blocks: []string{"a"}}, {ID: 2, Blocks: []string{"a"}}, {ID: 3, Blocks: []string{"a"}}, {ID: 4, Blocks: []string{"a"}}, {ID: 5, Blocks: []string{"a"}}},
	}
	for _, vs := range wrong {
		for _, marks := range [][]api.Mark{nil, {}, {mark(1, 0)}, {mark(9, 0)}, {mark(1, 99)}, {mark(1, 0), mark(9, 0)}} {
			expectError(t, vs, marks, api.ErrArg)
		}
	}
}

func expectError(t *testing.T, vs []api.Vol, marks []api.Mark, want api.Errno) {
	t.Helper()
	if got, e := fold.Pick(vs, marks); e != want || len(got) != 0 {
		t.Errorf("Pick(%v, %v) = %v, %d, want error %d", vs, marks, got, e, want)
	}
}

// P8.1 and P8.3: random lists of every length, against a map of the last writes.
func TestAgainstLastWrites(t *testing.T) {
	rnd := rand.New(rand.NewSource(1))
	for n := range 400 {
		a, b := randomWrites(rnd, n, 1+rnd.Intn(12)), randomWrites(rnd, rnd.Intn(30), 1+rnd.Intn(12))
		folded := fold.Fold(a)
		if want := lastWrites(a); !slices.Equal(folded, want) {
			t.Fatalf("Fold(%v) = %v, want %v", a, folded, want)
		}
		if !fold.Folded(folded) || !slices.Equal(fold.Fold(folded), folded) {
			t.Fatalf("Fold is not idempotent for %v", a)
		}
		if fold.Folded(a) != slices.Equal(a, folded) {
			t.Fatalf("Folded(%v) is %v", a, fold.Folded(a))
		}
		want := lastWrites(append(slices.Clone(a), b...))
		for _, got := range [][]api.Write{fold.Merge(a, b), fold.Merge(folded, b), fold.Merge(a, fold.Fold(b)), fold.Merge(folded, fold.Fold(b))} {
			if !slices.Equal(got, want) {
				t.Fatalf("Merge(%v, %v) = %v, want %v", a, b, got, want)
			}
		}
	}
}

func randomWrites(rnd *rand.Rand, n, span int) []api.Write {
	var ws []api.Write
	for range n {
		ws = append(ws, write(rnd.Intn(span)-span/2, rnd.Intn(span)-span/2, strconv.Itoa(rnd.Intn(1000))))
	}
	return ws
}

// lastWrites goes through all blocks in their order, so that nothing has to be sorted.
func lastWrites(ws []api.Write) []api.Write {
	last := map[api.Mark]string{}
	for _, w := range ws {
		last[mark(w.Vol, w.Block)] = w.Data
	}
	var out []api.Write
	for v := -6; v <= 6; v++ {
		for block := -6; block <= 6; block++ {
			if data, named := last[mark(v, block)]; named {
				out = append(out, write(v, block, data))
			}
		}
	}
	return out
}

// P8.3: folded writes do to volumes what the original ones do, and what they leave is what Pick finds there.
func TestFoldedWritesHaveTheSameEffect(t *testing.T) {
	rnd := rand.New(rand.NewSource(2))
	vs, _ := vols.Blank([]int{1, 5, 9, 32, 255, 1})
	for range 300 {
		ws := possibleWrites(rnd, vs, rnd.Intn(60))
		want, e := vols.Apply(vs, ws)
		if e != api.OK {
			t.Fatalf("Apply = %d", e)
		}
		folded := fold.Fold(ws)
		got, e := vols.Apply(vs, folded)
		if e != api.OK || !vols.Same(got, want) {
			t.Fatalf("%v lead to %v, %d, want %v", folded, got, e, want)
		}
		picked, e := fold.Pick(got, fold.Marks(ws))
		if e != api.OK || !slices.Equal(picked, folded) {
			t.Fatalf("Pick = %v, %d, want %v", picked, e, folded)
		}
		vs = got
	}
}

func possibleWrites(rnd *rand.Rand, vs []api.Vol, n int) []api.Write {
	var ws []api.Write
	for range n {
		v := vs[rnd.Intn(len(vs))]
		ws = append(ws, write(v.ID, rnd.Intn(len(v.Blocks)), strconv.Itoa(rnd.Intn(1000))))
	}
	return ws
}

// P1: many writes to one block and many blocks, the last writes being the ones that stay.
func TestManyWrites(t *testing.T) {
	const n = 200000
	var same, falling []api.Write
	for i := range n {
		same = append(same, write(1, 1, strconv.Itoa(i)))
		falling = append(falling, write(-i, i%3, ""))
	}
	if got := fold.Fold(same); !slices.Equal(got, []api.Write{write(1, 1, strconv.Itoa(n-1))}) {
		t.Errorf("%d writes to one block fold to %d", n, len(got))
	}
	if got := fold.Fold(falling); len(got) != n || !fold.Folded(got) {
		t.Errorf("writes to %d blocks fold to %d", n, len(got))
	}
}

// R1: what was handed in stays as it was, and so does what lies behind it.
func TestArgumentsStay(t *testing.T) {
	all := []api.Write{write(2, 0, "a"), write(1, 3, "b"), write(2, 0, "c"), write(0, 0, "d"), write(2, 0, "e")}
	ws, before := all[:3], slices.Clone(all)
	vs, marks := sample(), []api.Mark{mark(7, 2), mark(3, 0), mark(9, 9)}
	fold.Fold(ws)
	fold.Folded(ws)
	fold.Merge(ws, all[4:])
	fold.Merge(ws, ws)
	fold.Merge(ws[:0], ws)
	fold.Merge(ws, nil)
	fold.Marks(ws)
	fold.Bytes(ws)
	fold.Pick(vs, marks)
	fold.Pick(vs, marks[:2])
	if !slices.Equal(all, before) {
		t.Errorf("the writes are changed: %v", all)
	}
	if !vols.Same(vs, sample()) || !slices.Equal(marks, []api.Mark{mark(7, 2), mark(3, 0), mark(9, 9)}) {
		t.Errorf("the volumes or the marks are changed: %v, %v", vs, marks)
	}
}

// R1: writing to a result shows in no argument and in no other result, not even where there was nothing to fold.
func TestResultsAreNew(t *testing.T) {
	ws := []api.Write{write(1, 0, "a"), write(1, 1, "b"), write(2, 0, "c")}
	before := slices.Clone(ws)
	calls := map[string]func() []api.Write{
		"Fold":               func() []api.Write { return fold.Fold(ws) },
		"Fold of a part":     func() []api.Write { return fold.Fold(ws[:2]) },
		"Merge with nothing": func() []api.Write { return fold.Merge(ws, nil) },
		"Merge of nothing":   func() []api.Write { return fold.Merge(nil, ws) },
		"Merge of parts":     func() []api.Write { return fold.Merge(ws[:1], ws[1:2]) },
	}
	for name, call := range calls {
		got := call()
		want := slices.Clone(got)
		got = got[:cap(got)]
		for i := range got {
			got[i] = write(-1, -1, "spoilt")
		}
		if !slices.Equal(ws, before) || !slices.Equal(call(), want) {
			t.Errorf("%s shares memory: %v", name, ws)
		}
	}
}
