package snap_test

import (
	"math"
	"math/rand"
	"slices"
	"strconv"
	"strings"
	"testing"

	"counterfoil/api"
	"counterfoil/snap"
	"counterfoil/vols"
)

const long = "123456789" // one byte more than a block holds

func write(v, block int, data string) api.Write { return api.Write{Vol: v, Block: block, Data: data} }

func vol(id int, blocks ...string) api.Vol { return api.Vol{ID: id, Blocks: blocks} }

func sample() []api.Vol {
	return []api.Vol{vol(3, "c"), vol(7, "", "\x00\xff", "12345678")}
}

func copyOf(vs []api.Vol) []api.Vol {
	out := slices.Clone(vs)
	for i := range out {
		out[i].Blocks = slices.Clone(out[i].Blocks)
	}
	return out
}

// Saved contents of the sample.
func rightKept() map[string][]api.Write {
	return map[string][]api.Write{
		"nil":                   nil,
		"empty":                 {},
		"one":                   {write(7, 1, "a")},
		"as it is":              {write(3, 0, "c")},
		"empty data":            {write(7, 2, "")},
		"eight bytes":           {write(7, 0, "87654321")},
		"not text":              {write(7, 0, "\x00\xff\xfe")},
		"two of one volume":     {write(7, 0, "b"), write(7, 2, "a")},
		"two of two volumes":    {write(3, 0, "b"), write(7, 0, "a")},
		"all":                   {write(3, 0, "1"), write(7, 0, "2"), write(7, 1, "3"), write(7, 2, "4")},
		"all with the same one": {write(3, 0, "s"), write(7, 0, "s"), write(7, 1, "s"), write(7, 2, "s")},
	}
}

// Writes that are no saved contents of the sample.
func wrongKept() map[string][]api.Write {
	return map[string][]api.Write{
		"no such volume":         {write(4, 0, "a")},
		"volume 0":               {write(0, 0, "a")},
		"volume below 0":         {write(-3, 0, "a")},
		"volume in its low bits": {write(1<<32+3, 0, "a")},
		"the greatest volume":    {write(math.MaxInt, 0, "a")},
		"the least volume":       {write(math.MinInt, 0, "a")},
		"no such block":          {write(3, 1, "a")},
		"block below 0":          {write(7, -1, "a")},
		"block in its low bits":  {write(7, 1<<32, "a")},
		"the greatest block":     {write(7, math.MaxInt, "a")},
		"too long":               {write(7, 0, long)},
		"too long by its bytes":  {write(7, 0, "\u20ac\u20ac\u20ac")},
		"much too long":          {write(7, 0, strings.Repeat("x", 70000))},
		"twice the same":         {write(7, 1, "a"), write(7, 1, "a")},
		"two of one block":       {write(7, 1, "a"), write(7, 1, "b")},
		"falling blocks":         {write(7, 2, "a"), write(7, 1, "b")},
		"falling volumes":        {write(7, 0, "a"), write(3, 0, "b")},
		"wrong behind right":     {write(3, 0, "a"), write(7, 0, "b"), write(7, 3, "c")},
		"wrong before right":     {write(2, 0, "a"), write(3, 0, "b"), write(7, 0, "c")},
		"a falling end":          {write(3, 0, "a"), write(7, 1, "b"), write(7, 0, "c")},
	}
}

func wrongVols() map[string][]api.Vol {
	return map[string][]api.Vol{
		"ID 0":            {vol(0, "a")},
		"ID 256":          {vol(256, "a")},
		"no blocks":       {vol(1)},
		"too many blocks": {vol(1, make([]string, 33)...)},
		"too long":        {vol(1, "a", long)},
		"an ID twice":     {vol(1, "a"), vol(1, "a")},
		"falling IDs":     {vol(2, "a"), vol(1, "a")},
		"five volumes":    {vol(1, "a"), vol(2, "a"), vol(3, "a"), vol(4, "a"), vol(5, "a")},
	}
}

// P9.1.
func TestRight(t *testing.T) {
	for name, kept := range rightKept() {
		if !snap.Right(kept, sample()) {
			t.Errorf("%s: Right is false", name)
		}
	}
	for name, kept := range wrongKept() {
		if snap.Right(kept, sample()) {
			t.Errorf("%s: Right is true", name)
		}
	}
	for name, vs := range wrongVols() {
		for _, kept := range [][]api.Write{nil, {}, {write(1, 0, "a")}, {write(9, 9, long)}} {
			if snap.Right(kept, vs) {
				t.Errorf("%s: Right(%v) is true", name, kept)
			}
		}
	}
	if !snap.Right(nil, nil) || !snap.Right([]api.Write{}, []api.Vol{}) {
		t.Errorf("Right of nothing is false")
	}
	if snap.Right([]api.Write{write(3, 0, "")}, nil) {
		t.Errorf("Right without volumes is true")
	}
}

// P9.1: saved contents of every block of the greatest volumes are right, and one more write is not.
func TestRightOfAllBlocks(t *testing.T) {
	vs, _ := vols.Blank([]int{1, 32, 2, 32, 254, 32, 255, 32})
	var kept []api.Write
	for _, v := range vs {
		for i := range v.Blocks {
			kept = append(kept, write(v.ID, i, "12345678"))
		}
	}
	if len(kept) != 128 || !snap.Right(kept, vs) {
		t.Errorf("Right of %d blocks is false", len(kept))
	}
	for _, w := range []api.Write{write(255, 32, ""), write(256, 0, ""), kept[127], kept[0]} {
		if snap.Right(append(slices.Clone(kept), w), vs) {
			t.Errorf("Right with %v behind them is true", w)
		}
	}
}

// P9.1: what is not right is told before any other error.
func TestWrongArgumentsFirst(t *testing.T) {
	for name, kept := range wrongKept() {
		expectArg(t, name, kept, sample())
	}
	for name, vs := range wrongVols() {
		expectArg(t, name, nil, vs)
		expectArg(t, name, []api.Write{write(1, 0, "a")}, vs)
		expectArg(t, name, []api.Write{write(9, 0, "a")}, vs)
	}
}

func expectArg(t *testing.T, name string, kept []api.Write, vs []api.Vol) {
	t.Helper()
	for _, ws := range [][]api.Write{nil, {write(7, 0, "x")}, {write(1, 0, "x")}, {write(99, 0, "x")}, {write(7, 9, "x")}, {write(7, 0, long)}} {
		for _, most := range []int{math.MinInt, -1, 0, 1, 99, math.MaxInt} {
			if got, e := snap.Note(kept, vs, ws, most); e != api.ErrArg || len(got) != 0 {
				t.Errorf("%s: Note(%v, %d) = %v, %d", name, ws, most, got, e)
			}
		}
	}
	for _, b := range [][2]int{{7, 0}, {7, 1}, {3, 0}, {1, 0}, {4, 0}, {99, 0}, {7, 9}, {7, -1}} {
		if s, e := snap.Read(kept, vs, b[0], b[1]); e != api.ErrArg || s != "" {
			t.Errorf("%s: Read(%d, %d) = %q, %d", name, b[0], b[1], s, e)
		}
	}
	if got, e := snap.Back(kept, vs); e != api.ErrArg || len(got) != 0 {
		t.Errorf("%s: Back = %v, %d", name, got, e)
	}
}

// P9.2.
func TestNote(t *testing.T) {
	for name, c := range map[string]struct{ kept, ws, want []api.Write }{
		"nothing":           {nil, nil, nil},
		"no writes":         {[]api.Write{write(7, 1, "k")}, nil, []api.Write{write(7, 1, "k")}},
		"the first write":   {nil, []api.Write{write(3, 0, "x")}, []api.Write{write(3, 0, "c")}},
		"an empty block":    {nil, []api.Write{write(7, 0, "x")}, []api.Write{write(7, 0, "")}},
		"the same content":  {nil, []api.Write{write(3, 0, "c")}, []api.Write{write(3, 0, "c")}},
		"twice one block":   {nil, []api.Write{write(7, 2, "x"), write(7, 2, "y")}, []api.Write{write(7, 2, "12345678")}},
		"saved before":      {[]api.Write{write(3, 0, "k")}, []api.Write{write(3, 0, "x")}, []api.Write{write(3, 0, "k")}},
		"saved before as c": {[]api.Write{write(3, 0, "c")}, []api.Write{write(3, 0, "x")}, []api.Write{write(3, 0, "c")}},
		"saved as empty":    {[]api.Write{write(3, 0, "")}, []api.Write{write(3, 0, "x")}, []api.Write{write(3, 0, "")}},
		"falling writes": {nil,
			[]api.Write{write(7, 2, "x"), write(7, 0, "y"), write(3, 0, "z")},
			[]api.Write{write(3, 0, "c"), write(7, 0, ""), write(7, 2, "12345678")}},
		"before what is saved": {[]api.Write{write(7, 1, "k")},
			[]api.Write{write(3, 0, "x")},
			[]api.Write{write(3, 0, "c"), write(7, 1, "k")}},
		"behind what is saved": {[]api.Write{write(3, 0, "k")},
			[]api.Write{write(7, 1, "x")},
			[]api.Write{write(3, 0, "k"), write(7, 1, "\x00\xff")}},
		"between what is saved": {[]api.Write{write(7, 0, "k"), write(7, 2, "l")},
			[]api.Write{write(7, 1, "x")},
			[]api.Write{write(7, 0, "k"), write(7, 1, "\x00\xff"), write(7, 2, "l")}},
		"some saved, some not": {[]api.Write{write(7, 1, "k")},
			[]api.Write{write(7, 2, "x"), write(7, 1, "y"), write(7, 0, "z"), write(7, 1, "w"), write(7, 2, "v")},
			[]api.Write{write(7, 0, ""), write(7, 1, "k"), write(7, 2, "12345678")}},
		"all": {nil,
			[]api.Write{write(7, 0, ""), write(7, 1, ""), write(7, 2, ""), write(3, 0, "")},
			[]api.Write{write(3, 0, "c"), write(7, 0, ""), write(7, 1, "\x00\xff"), write(7, 2, "12345678")}},
	} {
		for _, most := range []int{len(c.want), len(c.want) + 1, 128, math.MaxInt} {
			if got, e := snap.Note(c.kept, sample(), c.ws, most); e != api.OK || !slices.Equal(got, c.want) {
				t.Errorf("%s: Note with most %d = %v, %d, want %v", name, most, got, e, c.want)
			}
		}
		// One more write than there is room for, even if all of them were saved before.
		for _, most := range []int{len(c.want) - 1, -1, math.MinInt} {
			if got, e := snap.Note(c.kept, sample(), c.ws, most); e != api.ErrSnap || len(got) != 0 {
				t.Errorf("%s: Note with most %d = %v, %d, want error 15", name, most, got, e)
			}
		}
	}
	if got, e := snap.Note(nil, nil, nil, 0); e != api.OK || len(got) != 0 {
		t.Errorf("Note of nothing = %v, %d", got, e)
	}
}

// P9.2: the first write that is not possible decides, with room and without.
func TestNoteChecksWrites(t *testing.T) {
	good := write(7, 1, "x")
	wrongs := map[api.Errno][]api.Write{
		api.ErrNone:  {write(4, 0, ""), write(0, 0, "x"), write(-7, 0, "x"), write(263, -1, long), write(math.MaxInt, 0, ""), write(math.MinInt, 0, "")},
		api.ErrRange: {write(3, 1, ""), write(7, 3, long), write(7, -1, "x"), write(7, math.MinInt, ""), write(7, math.MaxInt, "")},
		api.ErrLong:  {write(3, 0, long), write(7, 0, strings.Repeat("x", 70000)), write(7, 1, "\u20ac\u20ac\u20ac")},
	}
	for want, list := range wrongs {
		for _, w := range list {
			for _, other := range wrongs {
				for _, ws := range [][]api.Write{{w}, {good, w}, {w, good}, {w, other[0]}, {good, good, w, other[0]}} {
					expectNoteError(t, ws, want)
				}
			}
		}
	}
	if _, e := snap.Note(nil, nil, []api.Write{good}, 5); e != api.ErrNone {
		t.Errorf("Note without volumes = %d", e)
	}
}

func expectNoteError(t *testing.T, ws []api.Write, want api.Errno) {
	t.Helper()
	for _, kept := range [][]api.Write{nil, {write(7, 1, "k")}} {
		for _, most := range []int{-1, 0, 1, 128} {
			if got, e := snap.Note(kept, sample(), ws, most); e != want || len(got) != 0 {
				t.Errorf("Note(%v, %v, %d) = %v, %d, want error %d", kept, ws, most, got, e, want)
			}
		}
	}
}

// P9.3: a saved content prevails, even an empty one; all other blocks are read as they are.
func TestReadAndBack(t *testing.T) {
	for name, kept := range rightKept() {
		want := sample()
		for i := range want {
			for j := range want[i].Blocks {
				for _, w := range kept {
					if w.Vol == want[i].ID && w.Block == j {
						want[i].Blocks[j] = w.Data
					}
				}
				if s, e := snap.Read(kept, sample(), want[i].ID, j); s != want[i].Blocks[j] || e != api.OK {
					t.Errorf("%s: Read(%d, %d) = %q, %d", name, want[i].ID, j, s, e)
				}
			}
		}
		if got, e := snap.Back(kept, sample()); e != api.OK || !vols.Same(got, want) {
			t.Errorf("%s: Back = %v, %d, want %v", name, got, e, want)
		}
	}
	if got, e := snap.Back(nil, nil); e != api.OK || len(got) != 0 {
		t.Errorf("Back of nothing = %v, %d", got, e)
	}
}

// P9.3.
func TestReadRefuses(t *testing.T) {
	for _, kept := range rightKept() {
		for _, c := range []struct {
			vol, block int
			want       api.Errno
		}{
			{0, 0, api.ErrNone}, {-7, 0, api.ErrNone}, {4, 0, api.ErrNone}, {8, 0, api.ErrNone}, {259, 0, api.ErrNone},
			{1<<32 + 7, 0, api.ErrNone}, {math.MaxInt, 0, api.ErrNone}, {math.MinInt, -1, api.ErrNone}, {4, 99, api.ErrNone},
			{3, 1, api.ErrRange}, {3, -1, api.ErrRange}, {7, 3, api.ErrRange}, {7, 32, api.ErrRange},
			{7, 1 << 32, api.ErrRange}, {7, math.MaxInt, api.ErrRange}, {7, math.MinInt, api.ErrRange},
		} {
			if s, e := snap.Read(kept, sample(), c.vol, c.block); s != "" || e != c.want {
				t.Errorf("Read(%v, %d, %d) = %q, %d, want error %d", kept, c.vol, c.block, s, e, c.want)
			}
		}
	}
	if s, e := snap.Read(nil, nil, 1, 0); s != "" || e != api.ErrNone {
		t.Errorf("Read without volumes = %q, %d", s, e)
	}
}

// The chapter's example.
func TestExample(t *testing.T) {
	was := []api.Vol{vol(1, "x", "y")}
	ws := []api.Write{write(1, 0, "z")}
	kept, e := snap.Note(nil, was, ws, 5)
	if e != api.OK || !slices.Equal(kept, []api.Write{write(1, 0, "x")}) {
		t.Fatalf("Note = %v, %d", kept, e)
	}
	now, _ := vols.Apply(was, ws)
	if back, e := snap.Back(kept, now); e != api.OK || !vols.Same(back, was) {
		t.Errorf("Back = %v, %d", back, e)
	}
}

// P9.4: rounds of random writes, each noted ahead, with a snapshot that is held against a copy of the volumes.
func TestSnapshotStays(t *testing.T) {
	rnd := rand.New(rand.NewSource(1))
	for range 60 {
		now := randomVols(rnd)
		was := copyOf(now)
		var kept []api.Write
		touched := map[api.Mark]int{}
		for range 30 {
			ws := randomWrites(rnd, now, rnd.Intn(12))
			next, e := snap.Note(kept, now, ws, 128)
			if e != api.OK {
				t.Fatalf("Note = %d", e)
			}
			for _, w := range ws {
				touched[api.Mark{Vol: w.Vol, Block: w.Block}]++
			}
			now, _ = vols.Apply(now, ws)
			kept = next
			expectSnapshot(t, kept, now, was)
			if len(kept) != len(touched) {
				t.Fatalf("%d saved contents of %d blocks", len(kept), len(touched))
			}
		}
	}
}

// expectSnapshot holds each block and the whole against what the volumes were.
func expectSnapshot(t *testing.T, kept []api.Write, now, was []api.Vol) {
	t.Helper()
	if !snap.Right(kept, now) {
		t.Fatalf("no saved contents: %v", kept)
	}
	for _, v := range was {
		for i, want := range v.Blocks {
			if s, e := snap.Read(kept, now, v.ID, i); s != want || e != api.OK {
				t.Fatalf("Read(%d, %d) = %q, %d, want %q", v.ID, i, s, e, want)
			}
		}
	}
	if back, e := snap.Back(kept, now); e != api.OK || !vols.Same(back, was) {
		t.Fatalf("Back = %v, %d, want %v", back, e, was)
	}
}

func randomVols(rnd *rand.Rand) []api.Vol {
	var vs []api.Vol
	id := 0
	for range 1 + rnd.Intn(api.MaxVols) {
		id += 1 + rnd.Intn(60)
		v := vol(id, make([]string, 1+rnd.Intn(api.MaxBlocks))...)
		for i := range v.Blocks {
			v.Blocks[i] = randomData(rnd)
		}
		vs = append(vs, v)
	}
	return vs
}

// randomData is short, so that a block often gets the content that it has.
func randomData(rnd *rand.Rand) string { return strings.Repeat("a", rnd.Intn(api.MaxData+1)) }

func randomWrites(rnd *rand.Rand, vs []api.Vol, n int) []api.Write {
	var ws []api.Write
	for range n {
		v := vs[rnd.Intn(len(vs))]
		ws = append(ws, write(v.ID, rnd.Intn(len(v.Blocks)), randomData(rnd)))
	}
	return ws
}

// P9.2: writes are refused only where a block that was not saved yet finds no room.
func TestRoom(t *testing.T) {
	now, _ := vols.Blank([]int{1, 32})
	var kept []api.Write
	for i := range 20 {
		ws := []api.Write{write(1, i, strconv.Itoa(i)), write(1, i/2, "again")}
		next, e := snap.Note(kept, now, ws, api.Room)
		if i >= api.Room {
			if e != api.ErrSnap || len(next) != 0 {
				t.Fatalf("block %d: Note = %v, %d", i, next, e)
			}
			ws = ws[1:]
			next, e = snap.Note(kept, now, ws, api.Room)
		}
		if e != api.OK || len(next) != min(i+1, api.Room) {
			t.Fatalf("block %d: Note = %v, %d", i, next, e)
		}
		kept = next
		now, _ = vols.Apply(now, ws)
	}
	was, _ := vols.Blank([]int{1, 32})
	expectSnapshot(t, kept, now, was)
}

// P1: many writes to few blocks need no more room than these blocks.
func TestManyWrites(t *testing.T) {
	var ws []api.Write
	for i := range 200000 {
		ws = append(ws, write(7, i%3, strconv.Itoa(i)))
	}
	want := []api.Write{write(7, 0, ""), write(7, 1, "\x00\xff"), write(7, 2, "12345678")}
	if got, e := snap.Note(nil, sample(), ws, 3); e != api.OK || !slices.Equal(got, want) {
		t.Errorf("Note = %v, %d", got, e)
	}
	if snap.Right(ws, sample()) {
		t.Errorf("Right of %d writes is true", len(ws))
	}
}

// R1: what was handed in stays as it was, and so does what lies behind it.
func TestArgumentsStay(t *testing.T) {
	all := []api.Write{write(7, 0, "k"), write(7, 2, "l"), write(7, 2, "m"), write(3, 0, "n"), write(9, 9, "o")}
	before := slices.Clone(all)
	kept, ws := all[:2], all[2:4]
	vs := sample()
	for range 2 {
		snap.Right(kept, vs)
		snap.Right(all, vs)
		snap.Note(kept, vs, ws, 9)
		snap.Note(kept, vs, ws, 0)
		snap.Note(kept, vs, all[2:], 9)
		snap.Note(kept[:0], vs, ws, 9)
		snap.Note(kept, vs, nil, 9)
		snap.Note(kept, vs, kept, 9)
		snap.Read(kept, vs, 7, 2)
		snap.Back(kept, vs)
		snap.Back(all, vs)
	}
	if !slices.Equal(all, before) || !vols.Same(vs, sample()) {
		t.Errorf("the arguments are changed: %v, %v", all, vs)
	}
}

// R1: writing to a result shows in no argument and in no other result, not even where nothing was added.
func TestResultsAreNew(t *testing.T) {
	all := []api.Write{write(3, 0, "k"), write(7, 0, "l"), write(7, 1, "m")}
	before := slices.Clone(all)
	vs := sample()
	for _, kept := range [][]api.Write{all, all[:1], all[:0], nil} {
		for _, ws := range [][]api.Write{nil, all[:1], all[2:]} {
			got, _ := snap.Note(kept, vs, ws, 9)
			want := slices.Clone(got)
			got = got[:cap(got)]
			for i := range got {
				got[i] = write(-1, -1, "spoilt")
			}
			if again, _ := snap.Note(kept, vs, ws, 9); !slices.Equal(again, want) || !slices.Equal(all, before) {
				t.Errorf("Note(%v, %v) shares memory", kept, ws)
			}
		}
		back, _ := snap.Back(kept, vs)
		want := copyOf(back)
		for i := range back {
			for j := range back[i].Blocks {
				back[i].Blocks[j] = "spoilt"
			}
			back[i] = vol(-1)
		}
		if again, _ := snap.Back(kept, vs); !vols.Same(again, want) || !vols.Same(vs, sample()) || !slices.Equal(all, before) {
			t.Errorf("Back(%v) shares memory", kept)
		}
	}
}
