package vols_test

import (
	"math"
	"math/rand"
	"reflect"
	"slices"
	"strings"
	"testing"

	"counterfoil/api"
	"counterfoil/vols"
)

func vol(id int, blocks ...string) api.Vol { return api.Vol{ID: id, Blocks: blocks} }

func write(v, block int, data string) api.Write { return api.Write{Vol: v, Block: block, Data: data} }

func empty(n int) []string { return make([]string, n) }

// Two volumes with contents of every kind: none, bytes that are no text, and as many as a block holds.
func sample() []api.Vol {
	return []api.Vol{vol(3, "c"), vol(7, "", "\x00\xff", "12345678")}
}

func full() []api.Vol {
	return []api.Vol{vol(2, "a"), vol(4, "b", ""), vol(6, "c"), vol(255, "d")}
}

// All that a volume, or a list of them, must not be.
func wrong() map[string][]api.Vol {
	return map[string][]api.Vol{
		"ID 0":                   {vol(0, "a")},
		"ID -1":                  {vol(-1, "a")},
		"ID 256":                 {vol(256, "a")},
		"ID 257":                 {vol(257, "a")},
		"least ID":               {vol(math.MinInt, "a")},
		"greatest ID":            {vol(math.MaxInt, "a")},
		"nil blocks":             {{ID: 1}},
		"no blocks":              {vol(1, empty(0)...)},
		"33 blocks":              {vol(1, empty(33)...)},
		"9 bytes":                {vol(1, "123456789")},
		"9 bytes in the end":     {vol(1, "a"), vol(2, "b", "", "123456789")},
		"equal IDs":              {vol(1, "a"), vol(1, "a")},
		"falling IDs":            {vol(2, "a"), vol(1, "a")},
		"falling IDs in the end": {vol(1, "a"), vol(2, "a"), vol(9, "a"), vol(8, "a")},
		"5 volumes":              {vol(1, "a"), vol(2, "a"), vol(3, "a"), vol(4, "a"), vol(5, "a")},
		"a wrong one first":      {{}, vol(2, "a")},
		"a wrong one last":       {vol(2, "a"), vol(3)},
	}
}

func right() map[string][]api.Vol {
	return map[string][]api.Vol{
		"nil":        nil,
		"empty":      {},
		"one":        {vol(1, "")},
		"ID 255":     {vol(255, "x")},
		"32 blocks":  {vol(1, empty(32)...)},
		"8 bytes":    {vol(1, "12345678")},
		"8 of UTF-8": {vol(1, "\u20ac\u20ac\u00e9")},
		"sample":     sample(),
		"4 volumes":  full(),
		"neighbours": {vol(1, "a"), vol(2, "a")},
		"most of all": {vol(252, slices.Repeat([]string{"12345678"}, 32)...), vol(253, empty(32)...),
			vol(254, empty(32)...), vol(255, empty(32)...)},
	}
}

// Compared by other means than the package's; nil and empty lists are one.
func equal(a, b []api.Vol) bool {
	return len(a) == 0 && len(b) == 0 || reflect.DeepEqual(a, b)
}

func copyOf(vs []api.Vol) []api.Vol {
	var out []api.Vol
	for _, v := range vs {
		out = append(out, vol(v.ID, append([]string{}, v.Blocks...)...))
	}
	return out
}

func expect(t *testing.T, call string, got []api.Vol, e api.Errno, want []api.Vol) {
	t.Helper()
	if e != api.OK || !equal(got, want) {
		t.Errorf("%s = %v, %d, want %v", call, got, e, want)
	}
	if !vols.Right(got) {
		t.Errorf("%s is not valid: %v", call, got)
	}
}

func expectError(t *testing.T, call string, got []api.Vol, e api.Errno, want api.Errno) {
	t.Helper()
	if e != want || len(got) != 0 {
		t.Errorf("%s = %v, %d, want error %d", call, got, e, want)
	}
}

// P7.1.
func TestRight(t *testing.T) {
	for name, vs := range right() {
		if !vols.Right(vs) {
			t.Errorf("%s: Right is false", name)
		}
	}
	for name, vs := range wrong() {
		if vols.Right(vs) {
			t.Errorf("%s: Right is true", name)
		}
	}
}

// P7.1: each number of volumes, of blocks and of bytes round the limits.
func TestRightAtLimits(t *testing.T) {
	for n := range 2*api.MaxVols + 1 {
		var vs []api.Vol
		for i := range n {
			vs = append(vs, vol(i+1, ""))
		}
		if vols.Right(vs) != (n <= 4) {
			t.Errorf("%d volumes: Right is %v", n, vols.Right(vs))
		}
	}
	for n := range 2*api.MaxBlocks + 1 {
		if r := vols.Right([]api.Vol{vol(1, empty(n)...)}); r != (n >= 1 && n <= 32) {
			t.Errorf("%d blocks: Right is %v", n, r)
		}
	}
	for n := range 2*api.MaxData + 1 {
		if r := vols.Right([]api.Vol{vol(1, "", strings.Repeat("\x00", n))}); r != (n <= 8) {
			t.Errorf("%d bytes: Right is %v", n, r)
		}
	}
	for id := -300; id <= 600; id++ {
		if r := vols.Right([]api.Vol{vol(id, "")}); r != (id >= 1 && id <= 255) {
			t.Errorf("ID %d: Right is %v", id, r)
		}
	}
}

// P7.1: volumes that are not valid come before every other error, and before what would be a result.
func TestWrongVolumes(t *testing.T) {
	for name, vs := range wrong() {
		for _, id := range []int{-1, 0, 1, 2, 100, 256} {
			for _, n := range []int{-1, 0, 1, 32, 33} {
				got, e := vols.Add(vs, id, n)
				expectError(t, name+": Add", got, e, api.ErrArg)
				got, e = vols.Resize(vs, id, n)
				expectError(t, name+": Resize", got, e, api.ErrArg)
				if s, e := vols.Get(vs, id, n); s != "" || e != api.ErrArg {
					t.Errorf("%s: Get = %q, %d", name, s, e)
				}
				for _, data := range []string{"x", "123456789"} {
					ws := []api.Write{write(id, n, data)}
					got, e = vols.Apply(vs, ws)
					expectError(t, name+": Apply", got, e, api.ErrArg)
					if e := vols.Check(vs, ws); e != api.ErrArg {
						t.Errorf("%s: Check = %d", name, e)
					}
				}
			}
			got, e := vols.Drop(vs, id)
			expectError(t, name+": Drop", got, e, api.ErrArg)
		}
		got, e := vols.Apply(vs, nil)
		expectError(t, name+": Apply of nothing", got, e, api.ErrArg)
		if e := vols.Check(vs, nil); e != api.ErrArg {
			t.Errorf("%s: Check of nothing = %d", name, e)
		}
		if s := vols.Sizes(vs); len(s) != 0 {
			t.Errorf("%s: Sizes = %v", name, s)
		}
	}
}

// P7.1: equal and valid, in either order.
func TestSame(t *testing.T) {
	for name, a := range right() {
		for other, b := range right() {
			want := equal(a, b)
			if vols.Same(a, b) != want {
				t.Errorf("Same(%s, %s) is %v", name, other, !want)
			}
		}
		for other, b := range wrong() {
			if vols.Same(a, b) || vols.Same(b, a) {
				t.Errorf("Same of %s and %s, which is not valid, is true", name, other)
			}
		}
	}
	for name, vs := range wrong() {
		if vols.Same(vs, vs) || vols.Same(vs, copyOf(vs)) {
			t.Errorf("%s: Same of itself is true", name)
		}
	}
	if !vols.Same(nil, []api.Vol{}) {
		t.Errorf("nil and an empty list are not the same")
	}
}

// P7.1: one difference is enough, wherever it is.
func TestSameSeesEachDifference(t *testing.T) {
	a := sample()
	for _, b := range [][]api.Vol{
		{vol(4, "c"), vol(7, "", "\x00\xff", "12345678")},
		{vol(3, "c"), vol(8, "", "\x00\xff", "12345678")},
		{vol(3, ""), vol(7, "", "\x00\xff", "12345678")},
		{vol(3, "c"), vol(7, "\x00", "\x00\xff", "12345678")},
		{vol(3, "c"), vol(7, "", "\x00\xfe", "12345678")},
		{vol(3, "c"), vol(7, "", "\x00\xff", "1234567")},
		{vol(3, "c", ""), vol(7, "", "\x00\xff", "12345678")},
		{vol(3, "c"), vol(7, "", "\x00\xff", "12345678", "")},
		{vol(3, "c"), vol(7, "", "\x00\xff")},
		{vol(3, "c")},
		{vol(7, "", "\x00\xff", "12345678")},
		{vol(3, "c"), vol(7, "", "\x00\xff", "12345678"), vol(8, "")},
		nil,
	} {
		if vols.Same(a, b) || vols.Same(b, a) {
			t.Errorf("Same(%v, %v) is true", a, b)
		}
	}
	if !vols.Same(a, copyOf(a)) {
		t.Errorf("Same of a copy is false")
	}
}

// The chapter's examples.
func TestExamples(t *testing.T) {
	vs, e := vols.Add(nil, 7, 2)
	expect(t, "Add", vs, e, []api.Vol{vol(7, "", "")})
	if s := vols.Sizes(vs); !slices.Equal(s, []int{7, 2}) {
		t.Errorf("Sizes = %v", s)
	}
	out, e := vols.Apply(vs, []api.Write{write(7, 1, "x")})
	expect(t, "Apply", out, e, []api.Vol{vol(7, "", "x")})
	out, e = vols.Apply(vs, []api.Write{write(7, 2, "x")})
	expectError(t, "Apply outside", out, e, api.ErrRange)
}

// P7.2: ahead of all, between, behind all, and the least and greatest numbers.
func TestAdd(t *testing.T) {
	first, last := sample()[0], sample()[1]
	for _, c := range []struct {
		vs    []api.Vol
		id, n int
		want  []api.Vol
	}{
		{nil, 1, 1, []api.Vol{vol(1, "")}},
		{[]api.Vol{}, 255, 32, []api.Vol{vol(255, empty(32)...)}},
		{sample(), 1, 2, []api.Vol{vol(1, "", ""), first, last}},
		{sample(), 2, 2, []api.Vol{vol(2, "", ""), first, last}},
		{sample(), 4, 1, []api.Vol{first, vol(4, ""), last}},
		{sample(), 6, 3, []api.Vol{first, vol(6, "", "", ""), last}},
		{sample(), 8, 1, []api.Vol{first, last, vol(8, "")}},
		{sample(), 255, 32, []api.Vol{first, last, vol(255, empty(32)...)}},
	} {
		got, e := vols.Add(c.vs, c.id, c.n)
		expect(t, "Add", got, e, c.want)
	}
}

// P7.2: what Add refuses, and which error is first.
func TestAddRefuses(t *testing.T) {
	for _, vs := range [][]api.Vol{nil, sample(), full()} {
		for _, id := range []int{math.MinInt, -255, -1, 0, 256, 257, 1 << 32, math.MaxInt} {
			for _, n := range []int{0, 1, 32, 33} {
				got, e := vols.Add(vs, id, n)
				expectError(t, "Add of a wrong ID", got, e, api.ErrArg)
			}
		}
		for _, n := range []int{math.MinInt, -32, -1, 0, 33, 1 << 32, math.MaxInt} {
			for _, id := range []int{0, 1, 3, 4, 255} {
				got, e := vols.Add(vs, id, n)
				expectError(t, "Add of a wrong size", got, e, api.ErrArg)
			}
		}
	}
	for _, vs := range [][]api.Vol{sample(), full()} {
		for _, v := range vs {
			got, e := vols.Add(vs, v.ID, 1)
			expectError(t, "Add of one that is there", got, e, api.ErrThere)
		}
	}
	for _, id := range []int{1, 3, 5, 7, 254} {
		got, e := vols.Add(full(), id, 1)
		expectError(t, "Add to a full list", got, e, api.ErrFull)
	}
}

// P7.2: any order of additions leads to the same list.
func TestAddInAnyOrder(t *testing.T) {
	want := []api.Vol{vol(1, empty(1)...), vol(9, empty(9)...), vol(30, empty(30)...), vol(32, empty(32)...)}
	rnd := rand.New(rand.NewSource(1))
	for range 50 {
		var vs []api.Vol
		for _, i := range rnd.Perm(4) {
			var e api.Errno
			if vs, e = vols.Add(vs, want[i].ID, want[i].ID); e != api.OK {
				t.Fatalf("Add(%d) = %d", want[i].ID, e)
			}
		}
		if !equal(vs, want) {
			t.Fatalf("%v", vs)
		}
	}
}

// P7.2.
func TestDrop(t *testing.T) {
	for i, v := range full() {
		got, e := vols.Drop(full(), v.ID)
		expect(t, "Drop", got, e, slices.Delete(full(), i, i+1))
	}
	got, e := vols.Drop([]api.Vol{vol(1, "a")}, 1)
	expect(t, "Drop of the only one", got, e, nil)
	for _, vs := range [][]api.Vol{nil, {}, sample(), full()} {
		for _, id := range []int{math.MinInt, -7, -1, 0, 1, 5, 254, 256, 259, 1 << 32, math.MaxInt} {
			got, e := vols.Drop(vs, id)
			expectError(t, "Drop of none", got, e, api.ErrNone)
		}
	}
}

// P7.2: each size from each size.
func TestResize(t *testing.T) {
	for from := 1; from <= 32; from++ {
		blocks := empty(from)
		for i := range blocks {
			blocks[i] = string(rune('A' + i))
		}
		for to := 1; to <= 32; to++ {
			want := append(slices.Clone(blocks[:min(from, to)]), empty(max(0, to-from))...)
			vs := []api.Vol{vol(1, "a"), vol(5, blocks...), vol(9, "", "z")}
			got, e := vols.Resize(vs, 5, to)
			expect(t, "Resize", got, e, []api.Vol{vol(1, "a"), vol(5, want...), vol(9, "", "z")})
		}
	}
}

// P7.2: a volume that shrinks and grows again has lost the contents of its last blocks.
func TestResizeForgets(t *testing.T) {
	vs, _ := vols.Resize(sample(), 7, 2)
	vs, e := vols.Resize(vs, 7, 3)
	expect(t, "Resize", vs, e, []api.Vol{vol(3, "c"), vol(7, "", "\x00\xff", "")})
}

func TestResizeRefuses(t *testing.T) {
	for _, vs := range [][]api.Vol{nil, sample(), full()} {
		for _, id := range []int{math.MinInt, -1, 0, 3, 4, 7, 256, math.MaxInt} {
			for _, n := range []int{math.MinInt, -32, -1, 0, 33, 1 << 32, math.MaxInt} {
				got, e := vols.Resize(vs, id, n)
				expectError(t, "Resize to a wrong size", got, e, api.ErrArg)
			}
		}
		for _, id := range []int{math.MinInt, -1, 0, 1, 5, 254, 256, 259, math.MaxInt} {
			for _, n := range []int{1, 32} {
				got, e := vols.Resize(vs, id, n)
				expectError(t, "Resize of none", got, e, api.ErrNone)
			}
		}
	}
}

// P7.3: each block, and each that is not there.
func TestGet(t *testing.T) {
	for name, vs := range right() {
		for _, v := range vs {
			for i, want := range v.Blocks {
				if s, e := vols.Get(vs, v.ID, i); s != want || e != api.OK {
					t.Errorf("%s: Get(%d, %d) = %q, %d", name, v.ID, i, s, e)
				}
			}
			for _, i := range []int{math.MinInt, -1, len(v.Blocks), len(v.Blocks) + 1, 32, 1 << 32, math.MaxInt} {
				if s, e := vols.Get(vs, v.ID, i); s != "" || e != api.ErrRange {
					t.Errorf("%s: Get(%d, %d) = %q, %d", name, v.ID, i, s, e)
				}
			}
		}
		for _, id := range []int{math.MinInt, -1, 0, 5, 8, 100, 256, math.MaxInt} {
			for _, i := range []int{-1, 0, 1, 32} {
				if s, e := vols.Get(vs, id, i); s != "" || e != api.ErrNone {
					t.Errorf("%s: Get(%d, %d) = %q, %d", name, id, i, s, e)
				}
			}
		}
	}
}

// P7.3: what a write can be; of several errors of one write the one that is named first.
func TestCheckOfOne(t *testing.T) {
	long := "123456789"
	for _, c := range []struct {
		w    api.Write
		want api.Errno
	}{
		{write(3, 0, ""), api.OK},
		{write(3, 0, "12345678"), api.OK},
		{write(7, 2, "\x00\xff"), api.OK},
		{write(0, 0, "x"), api.ErrNone},
		{write(-3, 0, "x"), api.ErrNone},
		{write(4, 0, "x"), api.ErrNone},
		{write(259, 0, "x"), api.ErrNone},
		{write(math.MaxInt, 0, "x"), api.ErrNone},
		{write(4, -1, long), api.ErrNone},
		{write(4, 99, ""), api.ErrNone},
		{write(4, 0, long), api.ErrNone},
		{write(3, 1, "x"), api.ErrRange},
		{write(3, -1, "x"), api.ErrRange},
		{write(7, 3, "x"), api.ErrRange},
		{write(7, math.MinInt, "x"), api.ErrRange},
		{write(7, math.MaxInt, ""), api.ErrRange},
		{write(7, 3, long), api.ErrRange},
		{write(7, 0, long), api.ErrLong},
		{write(7, 2, strings.Repeat("x", 70000)), api.ErrLong},
		{write(7, 2, "\u20ac\u20ac\u20ac"), api.ErrLong},
	} {
		ws := []api.Write{c.w}
		if e := vols.Check(sample(), ws); e != c.want {
			t.Errorf("Check(%v) = %d, want %d", c.w, e, c.want)
		}
		if c.want != api.OK {
			got, e := vols.Apply(sample(), ws)
			expectError(t, "Apply", got, e, c.want)
		}
	}
}

// P7.3: the first write that is not possible counts, whatever stands behind it.
func TestCheckOfSeveral(t *testing.T) {
	good := write(7, 0, "x")
	wrongs := map[api.Errno]api.Write{
		api.ErrNone: write(8, 0, ""), api.ErrRange: write(7, 3, ""), api.ErrLong: write(7, 0, "123456789"),
	}
	for first, a := range wrongs {
		for _, b := range wrongs {
			for _, ws := range [][]api.Write{{a, b}, {good, a, b}, {good, good, a, good, b}, {a, good, b}} {
				if e := vols.Check(sample(), ws); e != first {
					t.Errorf("Check(%v) = %d, want %d", ws, e, first)
				}
				got, e := vols.Apply(sample(), ws)
				expectError(t, "Apply", got, e, first)
			}
		}
	}
	for _, ws := range [][]api.Write{nil, {}, {good}, {good, write(3, 0, "y"), good}, slices.Repeat([]api.Write{good}, 1000)} {
		if e := vols.Check(sample(), ws); e != api.OK {
			t.Errorf("Check of %d writes = %d", len(ws), e)
		}
	}
	if e := vols.Check(nil, nil); e != api.OK {
		t.Errorf("Check of nothing = %d", e)
	}
	if e := vols.Check(nil, []api.Write{good}); e != api.ErrNone {
		t.Errorf("Check without volumes = %d", e)
	}
}

// P7.3.
func TestApply(t *testing.T) {
	for _, c := range []struct {
		ws   []api.Write
		want []api.Vol
	}{
		{nil, sample()},
		{[]api.Write{write(3, 0, "")}, []api.Vol{vol(3, ""), vol(7, "", "\x00\xff", "12345678")}},
		{[]api.Write{write(7, 0, "a"), write(7, 0, "b")}, []api.Vol{vol(3, "c"), vol(7, "b", "\x00\xff", "12345678")}},
		{[]api.Write{write(7, 2, "b"), write(3, 0, "x"), write(7, 2, "")}, []api.Vol{vol(3, "x"), vol(7, "", "\x00\xff", "")}},
		{[]api.Write{write(7, 1, "87654321"), write(7, 0, "\x00")}, []api.Vol{vol(3, "c"), vol(7, "\x00", "87654321", "12345678")}},
	} {
		got, e := vols.Apply(sample(), c.ws)
		expect(t, "Apply", got, e, c.want)
	}
	got, e := vols.Apply(nil, nil)
	expect(t, "Apply of nothing", got, e, nil)
}

// P7.3 and P7.5: random writes, against the last write to each block; the sizes stay.
func TestApplyAgainstLastWrites(t *testing.T) {
	rnd := rand.New(rand.NewSource(2))
	for range 300 {
		vs := randomVols(rnd)
		ws := randomWrites(rnd, vs, rnd.Intn(40))
		last := map[[2]int]string{}
		for _, w := range ws {
			last[[2]int{w.Vol, w.Block}] = w.Data
		}
		want := copyOf(vs)
		for _, v := range want {
			for i := range v.Blocks {
				if data, named := last[[2]int{v.ID, i}]; named {
					v.Blocks[i] = data
				}
			}
		}
		got, e := vols.Apply(vs, ws)
		expect(t, "Apply", got, e, want)
		if a, b := vols.Sizes(vs), vols.Sizes(got); !slices.Equal(a, b) {
			t.Errorf("Apply changes the sizes from %v to %v", a, b)
		}
	}
}

func randomVols(rnd *rand.Rand) []api.Vol {
	var vs []api.Vol
	id := 0
	for range 1 + rnd.Intn(api.MaxVols) {
		id += 1 + rnd.Intn(60)
		v := vol(id, empty(1+rnd.Intn(api.MaxBlocks))...)
		for i := range v.Blocks {
			v.Blocks[i] = randomData(rnd)
		}
		vs = append(vs, v)
	}
	return vs
}

func randomData(rnd *rand.Rand) string {
	b := make([]byte, rnd.Intn(api.MaxData+1))
	rnd.Read(b)
	return string(b)
}

func randomWrites(rnd *rand.Rand, vs []api.Vol, n int) []api.Write {
	var ws []api.Write
	for range n {
		v := vs[rnd.Intn(len(vs))]
		ws = append(ws, write(v.ID, rnd.Intn(len(v.Blocks)), randomData(rnd)))
	}
	return ws
}

// P7.4: sizes there and back.
func TestSizesAndBlank(t *testing.T) {
	for name, vs := range right() {
		var want []int
		blank := copyOf(vs)
		for i, v := range vs {
			want = append(want, v.ID, len(v.Blocks))
			blank[i].Blocks = empty(len(v.Blocks))
		}
		got := vols.Sizes(vs)
		if !slices.Equal(got, want) {
			t.Errorf("%s: Sizes = %v, want %v", name, got, want)
		}
		out, e := vols.Blank(got)
		expect(t, name+": Blank", out, e, blank)
	}
	for _, sizes := range [][]int{nil, {}, {1, 1}, {255, 32}, {1, 32, 2, 1, 254, 31, 255, 7}} {
		out, e := vols.Blank(sizes)
		if s := vols.Sizes(out); e != api.OK || !slices.Equal(s, sizes) {
			t.Errorf("Blank(%v) = %v, %d", sizes, out, e)
		}
	}
}

// P7.4.
func TestBlankRefuses(t *testing.T) {
	for _, sizes := range [][]int{
		{1}, {1, 1, 2}, {1, 1, 2, 1, 3, 1, 4, 1, 5}, {0}, {255},
		{0, 1}, {-1, 1}, {256, 1}, {257, 1}, {math.MinInt, 1}, {math.MaxInt, 1},
		{1, 0}, {1, -1}, {1, 33}, {1, 1 << 32}, {1, math.MinInt}, {1, math.MaxInt},
		{1, 1, 1, 1}, {2, 1, 1, 1}, {1, 1, 3, 1, 2, 1}, {1, 1, 2, 1, 3, 1, 3, 1},
		{1, 1, 2, 0}, {1, 1, 0, 1}, {1, 1, 256, 1}, {1, 1, 2, math.MaxInt},
		{1, 1, 2, 1, 3, 1, 4, 1, 5, 1},
		slices.Repeat([]int{1, 1}, 100000),
	} {
		got, e := vols.Blank(sizes)
		expectError(t, "Blank", got, e, api.ErrArg)
	}
}

// R1: what was handed in stays as it was, in a call that succeeds and in one that fails.
func TestArgumentsStay(t *testing.T) {
	ws := []api.Write{write(4, 1, "new"), write(6, 0, "")}
	for _, vs := range [][]api.Vol{full(), full()[:3], {vol(4, "b", ""), vol(6, "c")}} {
		before, all := copyOf(vs), copyOf(vs[:cap(vs)])
		vols.Add(vs, 3, 2)
		vols.Add(vs, 4, 2)
		vols.Drop(vs, 4)
		vols.Resize(vs, 4, 1)
		vols.Resize(vs, 4, 3)
		vols.Apply(vs, ws)
		vols.Apply(vs, append(slices.Clone(ws), write(4, 2, "")))
		vols.Sizes(vs)
		vols.Same(vs, before)
		if !equal(vs, before) || !equal(vs[:cap(vs)], all) {
			t.Errorf("%v, was %v", vs[:cap(vs)], all)
		}
	}
	if !slices.Equal(ws, []api.Write{write(4, 1, "new"), write(6, 0, "")}) {
		t.Errorf("the writes are changed: %v", ws)
	}
	sizes := []int{1, 2, 3, 4}
	vols.Blank(sizes)
	if !slices.Equal(sizes, []int{1, 2, 3, 4}) {
		t.Errorf("the sizes are changed: %v", sizes)
	}
}

// R1: writing to a result shows in no argument, and writing to one list of it in no other.
func TestResultsAreNew(t *testing.T) {
	vs := full()[:3]
	calls := map[string]func() ([]api.Vol, api.Errno){
		"Add":              func() ([]api.Vol, api.Errno) { return vols.Add(vs, 3, 2) },
		"Drop":             func() ([]api.Vol, api.Errno) { return vols.Drop(vs, 4) },
		"Resize":           func() ([]api.Vol, api.Errno) { return vols.Resize(vs, 4, 1) },
		"Resize as it was": func() ([]api.Vol, api.Errno) { return vols.Resize(vs, 4, 2) },
		"Apply":            func() ([]api.Vol, api.Errno) { return vols.Apply(vs, []api.Write{write(4, 1, "x")}) },
		"Apply of nothing": func() ([]api.Vol, api.Errno) { return vols.Apply(vs, nil) },
		"Blank":            func() ([]api.Vol, api.Errno) { return vols.Blank([]int{1, 2, 3, 4}) },
	}
	for name, call := range calls {
		got, e := call()
		if e != api.OK {
			t.Fatalf("%s = %d", name, e)
		}
		want := copyOf(got)
		for i := range got {
			before := copyOf(got)
			spoil(got[i].Blocks)
			before[i] = got[i]
			if !equal(got, before) {
				t.Errorf("%s: two volumes share their blocks", name)
			}
		}
		got = append(got[:0], make([]api.Vol, cap(got))...)
		if !equal(vs, full()[:3]) {
			t.Errorf("%s shares memory with its argument", name)
		}
		again, e := call()
		expect(t, name+" again", again, e, want)
	}
	s := vols.Sizes(vs)
	s[0], s[1] = -1, -1
	if !slices.Equal(vols.Sizes(vs), []int{2, 1, 4, 2, 6, 1}) {
		t.Errorf("Sizes returned before is returned again")
	}
}

// spoil overwrites the list and what lies behind it.
func spoil(blocks []string) {
	blocks = blocks[:cap(blocks)]
	for i := range blocks {
		blocks[i] = "spoilt"
	}
}

// P7.2 to P7.5: random rows of calls, right and wrong ones, against a map from IDs to contents.
func TestAgainstModel(t *testing.T) {
	rnd := rand.New(rand.NewSource(3))
	for range 60 {
		m := model{}
		var vs []api.Vol
		for range 120 {
			id, n := rnd.Intn(9), rnd.Intn(36)-1
			var got []api.Vol
			var e, want api.Errno
			switch rnd.Intn(4) {
			case 0:
				got, e = vols.Add(vs, id, n)
				want = m.add(id, n)
			case 1:
				got, e = vols.Drop(vs, id)
				want = m.drop(id)
			case 2:
				got, e = vols.Resize(vs, id, n)
				want = m.resize(id, n)
			case 3:
				ws := []api.Write{write(id, n, randomData(rnd)), write(rnd.Intn(9), rnd.Intn(9), randomData(rnd))}
				got, e = vols.Apply(vs, ws)
				want = m.apply(ws)
			}
			if want != api.OK {
				expectError(t, "a call", got, e, want)
				continue
			}
			expect(t, "a call", got, e, m.list())
			vs = got
		}
	}
}

type model map[int][]string

func (m model) add(id, n int) api.Errno {
	switch {
	case id < 1 || n < 1 || n > 32:
		return api.ErrArg
	case m[id] != nil:
		return api.ErrThere
	case len(m) == 4:
		return api.ErrFull
	}
	m[id] = empty(n)
	return api.OK
}

func (m model) drop(id int) api.Errno {
	if m[id] == nil {
		return api.ErrNone
	}
	delete(m, id)
	return api.OK
}

func (m model) resize(id, n int) api.Errno {
	switch {
	case n < 1 || n > 32:
		return api.ErrArg
	case m[id] == nil:
		return api.ErrNone
	}
	m[id] = append(append([]string{}, m[id]...), empty(32)...)[:n]
	return api.OK
}

func (m model) apply(ws []api.Write) api.Errno {
	for _, w := range ws {
		switch {
		case m[w.Vol] == nil:
			return api.ErrNone
		case w.Block < 0 || w.Block >= len(m[w.Vol]):
			return api.ErrRange
		}
	}
	for _, w := range ws {
		m[w.Vol][w.Block] = w.Data
	}
	return api.OK
}

func (m model) list() []api.Vol {
	var vs []api.Vol
	for id := range 256 {
		if m[id] != nil {
			vs = append(vs, vol(id, append([]string{}, m[id]...)...))
		}
	}
	return vs
}
