package dirty_test

import (
	"math"
	"math/rand"
	"slices"
	"strings"
	"testing"

	"counterfoil/api"
	"counterfoil/dirty"
	"counterfoil/vols"
)

const full = 1<<32 - 1 // the Mask of 32 blocks

func bits(vol int, mask uint64) api.Bits { return api.Bits{Vol: vol, Mask: mask} }

func mark(v, block int) api.Mark { return api.Mark{Vol: v, Block: block} }

func write(v, block int) api.Write { return api.Write{Vol: v, Block: block, Data: "d"} }

func vol(id, n int) api.Vol { return api.Vol{ID: id, Blocks: make([]string, n)} }

// The greatest bitmap: every block of every volume is marked.
func whole() []api.Bits {
	var m []api.Bits
	for v := 1; v <= 255; v++ {
		m = append(m, bits(v, full))
	}
	return m
}

func rightBitmaps() map[string][]api.Bits {
	return map[string][]api.Bits{
		"nil":                    nil,
		"empty":                  {},
		"the first block":        {bits(1, 1)},
		"the last block":         {bits(255, 1<<31)},
		"all blocks of a volume": {bits(128, full)},
		"neighbours":             {bits(1, 8), bits(2, 1)},
		"five volumes":           {bits(1, 1), bits(7, 2), bits(9, 1<<31|1), bits(200, full-1), bits(255, 1)},
		"the whole":              whole(),
	}
}

func wrongBitmaps() map[string][]api.Bits {
	return map[string][]api.Bits{
		"Vol 0":               {bits(0, 1)},
		"Vol 0, right behind": {bits(0, 1), bits(1, 1)},
		"Vol 256":             {bits(256, 1)},
		"Vol 256 behind":      {bits(255, 1), bits(256, 1)},
		"Vol below 0":         {bits(-1, 1)},
		"Vol of many bits":    {bits(1<<32+1, 1)},
		"the least Vol":       {bits(math.MinInt, 1)},
		"the greatest Vol":    {bits(math.MaxInt, 1)},
		"Mask 0":              {bits(1, 0)},
		"Mask 0 between":      {bits(1, 1), bits(2, 0), bits(3, 1)},
		"Mask 0 behind":       {bits(1, 1), bits(2, 0)},
		"Mask 2^32":           {bits(1, 1<<32)},
		"Mask 2^32 + 1":       {bits(1, 1<<32+1)},
		"Mask 2^63":           {bits(1, 1<<63)},
		"the greatest Mask":   {bits(1, math.MaxUint64)},
		"a Vol twice":         {bits(1, 1), bits(1, 2)},
		"a Vol twice behind":  {bits(1, 1), bits(2, 1), bits(2, 1)},
		"falling Vols":        {bits(2, 1), bits(1, 1)},
		"one too many":        append(whole(), bits(255, 1)),
		"a Vol 0 behind":      append(whole(), bits(0, 1)),
	}
}

// Blocks that no bitmap can mark.
func wrongBlocks() []api.Mark {
	return []api.Mark{
		mark(0, 0), mark(-1, 0), mark(256, 0), mark(257, 0), mark(math.MinInt, 0), mark(math.MaxInt, 0), mark(1<<32+1, 0),
		mark(1, -1), mark(1, 32), mark(1, 33), mark(1, 63), mark(1, 64), mark(1, math.MinInt), mark(1, math.MaxInt), mark(1, 1<<32),
		mark(255, 32), mark(255, -1), mark(0, -1), mark(256, 32), mark(math.MaxInt, math.MinInt),
	}
}

// A bitmap as the set of its blocks, bit by bit, to hold the functions against.
type blocks [256][32]int

func blocksOf(m []api.Bits) blocks {
	var b blocks
	for _, x := range m {
		for i := range 32 {
			b[x.Vol][i] = int(x.Mask >> i & 1)
		}
	}
	return b
}

func (b *blocks) bitmap() []api.Bits {
	var m []api.Bits
	for v := range 256 {
		mask, worth := uint64(0), uint64(1)
		for i := range 32 {
			mask += uint64(b[v][i]) * worth
			worth *= 2
		}
		if mask > 0 {
			m = append(m, bits(v, mask))
		}
	}
	return m
}

func (b *blocks) marks() []api.Mark {
	var l []api.Mark
	for v := range 256 {
		for i := range 32 {
			if b[v][i] > 0 {
				l = append(l, mark(v, i))
			}
		}
	}
	return l
}

// P10.1.
func TestRight(t *testing.T) {
	for name, m := range rightBitmaps() {
		if !dirty.Right(m) {
			t.Errorf("%s: Right is false", name)
		}
	}
	for name, m := range wrongBitmaps() {
		if dirty.Right(m) {
			t.Errorf("%s: Right is true", name)
		}
	}
}

// P10.1: one wrong element is enough, wherever it stands.
func TestRightSeesEachElement(t *testing.T) {
	for i := range 255 {
		for _, mask := range []uint64{0, 1 << 32, math.MaxUint64} {
			m := whole()
			m[i].Mask = mask
			if dirty.Right(m) {
				t.Errorf("Right is true with the Mask %d at %d", mask, i)
			}
		}
		for _, v := range []int{0, -1, i, i + 2, 256} {
			m := whole()
			m[i].Vol = v
			// The last volume can have no greater one behind it.
			if want := v == i+1; dirty.Right(m) != want {
				t.Errorf("Right is %v with the Vol %d at %d", !want, v, i)
			}
		}
	}
}

// P10.1, P10.2, P10.3: what a bitmap that is not valid gives, ahead of every other error.
func TestWrongBitmaps(t *testing.T) {
	for name, m := range wrongBitmaps() {
		for _, b := range append(wrongBlocks(), mark(1, 0), mark(2, 1), mark(255, 31)) {
			if got, e := dirty.Set(m, b.Vol, b.Block); len(got) != 0 || e != api.ErrArg {
				t.Errorf("%s: Set(%v) = %v, %d", name, b, got, e)
			}
			if dirty.Has(m, b.Vol, b.Block) {
				t.Errorf("%s: Has(%v) is true", name, b)
			}
		}
		for other, right := range rightBitmaps() {
			expectNoJoin(t, name+", "+other, m, right)
			expectNoJoin(t, other+", "+name, right, m)
		}
		expectNoJoin(t, name+" twice", m, m)
		if n := dirty.Count(m); n != 0 {
			t.Errorf("%s: Count = %d", name, n)
		}
		if l := dirty.List(m); len(l) != 0 {
			t.Errorf("%s: List = %v", name, l)
		}
		for _, vs := range [][]api.Vol{nil, {vol(1, 32)}, {vol(1, 32), vol(2, 32), vol(3, 32), vol(255, 32)}} {
			if dirty.Within(m, vs) {
				t.Errorf("%s: Within(%v) is true", name, vs)
			}
		}
		if s, e := dirty.Bytes(m); s != "" || e != api.ErrArg {
			t.Errorf("%s: Bytes = %q, %d", name, s, e)
		}
	}
}

func expectNoJoin(t *testing.T, name string, a, b []api.Bits) {
	t.Helper()
	if got, e := dirty.Join(a, b); len(got) != 0 || e != api.ErrArg {
		t.Errorf("%s: Join = %v, %d", name, got, e)
	}
}

// P10.1: each block of some volumes, marked in each bitmap, alone changes what Has reports.
func TestSetAndHas(t *testing.T) {
	for name, m := range rightBitmaps() {
		was := blocksOf(m)
		for _, v := range []int{1, 2, 3, 7, 8, 127, 128, 200, 254, 255} {
			for block := range 32 {
				want := was
				if got := dirty.Has(m, v, block); got != (want[v][block] > 0) {
					t.Errorf("%s: Has(%d, %d) is %v", name, v, block, got)
				}
				want[v][block] = 1
				got, e := dirty.Set(m, v, block)
				if e != api.OK || !slices.Equal(got, want.bitmap()) || !dirty.Right(got) || !dirty.Has(got, v, block) {
					t.Errorf("%s: Set(%d, %d) = %v, %d", name, v, block, got, e)
				}
			}
		}
	}
}

// P10.1.
func TestWrongBlocks(t *testing.T) {
	for name, m := range rightBitmaps() {
		for _, b := range wrongBlocks() {
			if got, e := dirty.Set(m, b.Vol, b.Block); len(got) != 0 || e != api.ErrRange {
				t.Errorf("%s: Set(%v) = %v, %d", name, b, got, e)
			}
			if dirty.Has(m, b.Vol, b.Block) {
				t.Errorf("%s: Has(%v) is true", name, b)
			}
		}
	}
}

// P10.1.
func TestJoin(t *testing.T) {
	for _, c := range []struct{ a, b, want []api.Bits }{
		{nil, nil, nil},
		{[]api.Bits{}, nil, nil},
		{[]api.Bits{bits(1, 1)}, nil, []api.Bits{bits(1, 1)}},
		{[]api.Bits{bits(1, 1)}, []api.Bits{bits(1, 1)}, []api.Bits{bits(1, 1)}},
		{[]api.Bits{bits(1, 5)}, []api.Bits{bits(1, 6)}, []api.Bits{bits(1, 7)}},
		{[]api.Bits{bits(1, 1)}, []api.Bits{bits(1, 1<<31)}, []api.Bits{bits(1, 1<<31|1)}},
		{[]api.Bits{bits(2, 1)}, []api.Bits{bits(1, 2)}, []api.Bits{bits(1, 2), bits(2, 1)}},
		{[]api.Bits{bits(1, 1), bits(255, 4)}, []api.Bits{bits(7, 2), bits(255, 8)}, []api.Bits{bits(1, 1), bits(7, 2), bits(255, 12)}},
		{[]api.Bits{bits(9, 9)}, whole(), whole()},
		{whole(), whole(), whole()},
	} {
		expectJoin(t, c.a, c.b, c.want)
		expectJoin(t, c.b, c.a, c.want)
	}
}

func expectJoin(t *testing.T, a, b, want []api.Bits) {
	t.Helper()
	if got, e := dirty.Join(a, b); e != api.OK || !slices.Equal(got, want) {
		t.Errorf("Join(%v, %v) = %v, %d, want %v", a, b, got, e, want)
	}
}

// P10.1: the order of the writes, how often a block is named and what it becomes do not count.
func TestOf(t *testing.T) {
	for _, c := range []struct {
		ws   []api.Write
		want []api.Bits
	}{
		{nil, nil},
		{[]api.Write{}, nil},
		{[]api.Write{write(1, 0)}, []api.Bits{bits(1, 1)}},
		{[]api.Write{write(255, 31)}, []api.Bits{bits(255, 1<<31)}},
		{[]api.Write{write(2, 0), write(1, 3)}, []api.Bits{bits(1, 8), bits(2, 1)}},
		{[]api.Write{write(1, 3), write(2, 0)}, []api.Bits{bits(1, 8), bits(2, 1)}},
		{[]api.Write{write(4, 5), write(4, 5), write(4, 0), write(4, 5)}, []api.Bits{bits(4, 33)}},
		{[]api.Write{{Vol: 3, Block: 1}, {Vol: 3, Block: 2, Data: strings.Repeat("x", 70000)}}, []api.Bits{bits(3, 6)}},
	} {
		if got, e := dirty.Of(c.ws); e != api.OK || !slices.Equal(got, c.want) {
			t.Errorf("Of(%v) = %v, %d, want %v", c.ws, got, e, c.want)
		}
	}
	var ws []api.Write
	for v := 255; v >= 1; v-- {
		for block := range 32 {
			ws = append(ws, write(v, block))
		}
	}
	if got, e := dirty.Of(ws); e != api.OK || !slices.Equal(got, whole()) {
		t.Errorf("Of all blocks = %v, %d", got, e)
	}
}

// P10.1: one block that cannot be marked is enough, wherever it stands.
func TestOfRefuses(t *testing.T) {
	for _, b := range wrongBlocks() {
		wrong := write(b.Vol, b.Block)
		for _, ws := range [][]api.Write{{wrong}, {write(1, 1), wrong}, {wrong, write(1, 1)}, {write(3, 1), wrong, write(1, 1)}, {wrong, wrong}} {
			if got, e := dirty.Of(ws); len(got) != 0 || e != api.ErrRange {
				t.Errorf("Of(%v) = %v, %d", ws, got, e)
			}
		}
	}
}

func wrongVols() map[string][]api.Vol {
	return map[string][]api.Vol{
		"ID 0":            {vol(0, 1)},
		"ID 256":          {vol(256, 1)},
		"an ID below 0":   {vol(-1, 1)},
		"no blocks":       {vol(1, 0)},
		"too many blocks": {vol(1, 33)},
		"64 blocks":       {vol(1, 64)},
		"too long":        {{ID: 1, Blocks: []string{"123456789"}}},
		"an ID twice":     {vol(1, 1), vol(1, 1)},
		"falling IDs":     {vol(2, 1), vol(1, 1)},
		"five volumes":    {vol(1, 1), vol(2, 1), vol(3, 1), vol(4, 1), vol(5, 1)},
		"wrong behind":    {vol(1, 32), vol(2, 0)},
	}
}

// P10.1: every number of blocks that a volume can have.
func TestAll(t *testing.T) {
	want := uint64(0)
	for n := 1; n <= 32; n++ {
		want = 2*want + 1
		for _, id := range []int{1, 7, 255} {
			if m := dirty.All([]api.Vol{vol(id, n)}); !slices.Equal(m, []api.Bits{bits(id, want)}) {
				t.Errorf("All of %d blocks of volume %d = %v", n, id, m)
			}
		}
	}
	vs := []api.Vol{{ID: 2, Blocks: []string{"12345678", "", "x"}}, vol(3, 1), vol(9, 32), vol(255, 4)}
	if m := dirty.All(vs); !slices.Equal(m, []api.Bits{bits(2, 7), bits(3, 1), bits(9, full), bits(255, 15)}) {
		t.Errorf("All = %v", m)
	}
	if m := dirty.All(nil); len(m) != 0 {
		t.Errorf("All of nothing = %v", m)
	}
	for name, vs := range wrongVols() {
		if m := dirty.All(vs); len(m) != 0 {
			t.Errorf("%s: All = %v", name, m)
		}
	}
}

// P10.2.
func TestCountAndList(t *testing.T) {
	for name, m := range rightBitmaps() {
		b := blocksOf(m)
		want := b.marks()
		if got := dirty.List(m); !slices.Equal(got, want) {
			t.Errorf("%s: List = %v, want %v", name, got, want)
		}
		if n := dirty.Count(m); n != len(want) {
			t.Errorf("%s: Count = %d, want %d", name, n, len(want))
		}
	}
	m := []api.Bits{bits(1, 1<<31|9), bits(4, 2)}
	if n := dirty.Count(m); n != 4 {
		t.Errorf("Count = %d", n)
	}
	if l := dirty.List(m); !slices.Equal(l, []api.Mark{mark(1, 0), mark(1, 3), mark(1, 31), mark(4, 1)}) {
		t.Errorf("List = %v", l)
	}
	if n := dirty.Count(whole()); n != 8160 {
		t.Errorf("Count of the whole = %d", n)
	}
}

// P10.2.
func TestWithin(t *testing.T) {
	vs := []api.Vol{vol(2, 1), vol(5, 3), vol(9, 31), vol(255, 32)}
	for name, c := range map[string]struct {
		m    []api.Bits
		want bool
	}{
		"nothing":                    {nil, true},
		"the first block":            {[]api.Bits{bits(2, 1)}, true},
		"all blocks":                 {dirty.All(vs), true},
		"some blocks":                {[]api.Bits{bits(5, 4), bits(255, 1<<31)}, true},
		"a block too far":            {[]api.Bits{bits(2, 2)}, false},
		"a block too far, and right": {[]api.Bits{bits(5, 15)}, false},
		"the last block too far":     {[]api.Bits{bits(9, 1<<31)}, false},
		"no such volume":             {[]api.Bits{bits(3, 1)}, false},
		"a volume before":            {[]api.Bits{bits(1, 1), bits(2, 1)}, false},
		"a volume behind":            {[]api.Bits{bits(9, 1), bits(254, 1)}, false},
		"right, wrong, right":        {[]api.Bits{bits(2, 1), bits(5, 8), bits(9, 1)}, false},
		"the whole":                  {whole(), false},
	} {
		if got := dirty.Within(c.m, vs); got != c.want {
			t.Errorf("%s: Within is %v", name, got)
		}
	}
	if !dirty.Within(nil, nil) || !dirty.Within([]api.Bits{}, []api.Vol{}) {
		t.Errorf("Within of nothing is false")
	}
	if dirty.Within([]api.Bits{bits(1, 1)}, nil) {
		t.Errorf("Within without volumes is true")
	}
	for name, vs := range wrongVols() {
		for _, m := range [][]api.Bits{nil, {}, {bits(1, 1)}, {bits(2, 1)}} {
			if dirty.Within(m, vs) {
				t.Errorf("%s: Within of %v is true", name, m)
			}
		}
	}
}

// P10.2: each single block against volumes of each size.
func TestWithinEachSize(t *testing.T) {
	for n := 1; n <= 32; n++ {
		for block := range 32 {
			if got := dirty.Within([]api.Bits{bits(6, 1<<block)}, []api.Vol{vol(6, n)}); got != (block < n) {
				t.Errorf("Within of block %d and %d blocks is %v", block, n, got)
			}
		}
	}
}

// P10.3: bytes that are written out by hand, with nothing and with something behind them.
func TestBytesAndParse(t *testing.T) {
	for _, c := range []struct {
		m []api.Bits
		s string
	}{
		{nil, "\x00"},
		{[]api.Bits{bits(1, 1)}, "\x01\x01\x00\x00\x00\x01"},
		{[]api.Bits{bits(255, full)}, "\x01\xff\xff\xff\xff\xff"},
		{[]api.Bits{bits(7, 0x01020304)}, "\x01\x07\x01\x02\x03\x04"},
		{[]api.Bits{bits(7, 1<<31)}, "\x01\x07\x80\x00\x00\x00"},
		{[]api.Bits{bits(1, 8), bits(2, 1)}, "\x02\x01\x00\x00\x00\x08\x02\x00\x00\x00\x01"},
		{[]api.Bits{bits(3, 1<<8), bits(4, 1<<16), bits(254, 1<<24)}, "\x03\x03\x00\x00\x01\x00\x04\x00\x01\x00\x00\xfe\x01\x00\x00\x00"},
	} {
		if s, e := dirty.Bytes(c.m); s != c.s || e != api.OK {
			t.Errorf("Bytes(%v) = %q, %d, want %q", c.m, s, e, c.s)
		}
		expectParse(t, c.s, c.m)
	}
}

// expectParse takes the encoding of m with different rests, and each beginning of it that is too short.
func expectParse(t *testing.T, s string, m []api.Bits) {
	t.Helper()
	for _, rest := range []string{"", "x", "\x00", "\x01\x01\x00\x00\x00\x01", strings.Repeat("\xff", 2000)} {
		if got, tail, e := dirty.Parse(s + rest); !slices.Equal(got, m) || tail != rest || e != api.OK {
			t.Errorf("Parse(%q) = %v, %q, %d", s+rest, got, tail, e)
		}
	}
	for n := range len(s) {
		expectNoParse(t, s[:n], api.ErrShort)
	}
}

func expectNoParse(t *testing.T, s string, want api.Errno) {
	t.Helper()
	if got, rest, e := dirty.Parse(s); len(got) != 0 || rest != "" || e != want {
		t.Errorf("Parse(%q) = %v, %q, %d, want error %d", s, got, rest, e, want)
	}
}

// P10.3, P10.4.
func TestParseInvertsBytes(t *testing.T) {
	for name, m := range rightBitmaps() {
		s, e := dirty.Bytes(m)
		if e != api.OK || len(s) != 1+5*len(m) {
			t.Fatalf("%s: Bytes has %d bytes, %d", name, len(s), e)
		}
		expectParse(t, s, m)
	}
}

// P10.3: what has all its bytes and is not valid, and what lacks some of them beside.
func TestParseRefuses(t *testing.T) {
	for name, s := range map[string]string{
		"Vol 0":          "\x01\x00\x00\x00\x00\x01",
		"Mask 0":         "\x01\x01\x00\x00\x00\x00",
		"a Vol twice":    "\x02\x01\x00\x00\x00\x01\x01\x00\x00\x00\x02",
		"falling Vols":   "\x02\x02\x00\x00\x00\x01\x01\x00\x00\x00\x01",
		"Mask 0 behind":  "\x02\x01\x00\x00\x00\x01\x02\x00\x00\x00\x00",
		"Mask 0 between": "\x03\x01\x00\x00\x00\x01\x02\x00\x00\x00\x00\x03\x00\x00\x00\x01",
		"Vol 0 behind":   "\x02\x01\x00\x00\x00\x01\x00\x00\x00\x00\x01",
		"255 times 0":    "\xff" + strings.Repeat("\x00", 5*255),
		"255 times 255":  strings.Repeat("\xff", 1+5*255),
	} {
		t.Run(name, func(t *testing.T) {
			for _, rest := range []string{"", "x", "\x00\x00"} {
				expectNoParse(t, s+rest, api.ErrForm)
			}
			for n := range len(s) {
				expectNoParse(t, s[:n], api.ErrShort)
			}
		})
	}
}

// P10.3: whatever is decoded is valid and encodes to the bytes that it was decoded from.
func TestParseAnything(t *testing.T) {
	rnd := rand.New(rand.NewSource(1))
	decoded := 0
	for range 20000 {
		s := make([]byte, rnd.Intn(20))
		rnd.Read(s)
		if len(s) > 0 {
			s[0] %= 4
		}
		m, rest, e := dirty.Parse(string(s))
		if e != api.OK {
			continue
		}
		decoded++
		if b, e := dirty.Bytes(m); !dirty.Right(m) || e != api.OK || b+rest != string(s) {
			t.Fatalf("Parse(%q) = %v, %q", s, m, rest)
		}
	}
	if decoded < 1000 {
		t.Errorf("only %d were decoded", decoded)
	}
}

// The chapter's examples.
func TestExamples(t *testing.T) {
	m, e := dirty.Of([]api.Write{write(1, 3), write(2, 0)})
	if e != api.OK || !slices.Equal(m, []api.Bits{bits(1, 8), bits(2, 1)}) {
		t.Errorf("Of = %v, %d", m, e)
	}
	if s, e := dirty.Bytes(m); e != api.OK || s != "\x02\x01\x00\x00\x00\x08\x02\x00\x00\x00\x01" {
		t.Errorf("Bytes = %q, %d", s, e)
	}
	if m, rest, e := dirty.Parse("\x00"); e != api.OK || len(m) != 0 || rest != "" {
		t.Errorf("Parse = %v, %q, %d", m, rest, e)
	}
}

func randomBlocks(rnd *rand.Rand) blocks {
	var b blocks
	for range rnd.Intn(60) {
		b[1+rnd.Intn(255)][rnd.Intn(32)] = 1
		b[1+rnd.Intn(4)][rnd.Intn(32)] = 1
	}
	return b
}

// P10.4, and all of the others for bitmaps that come by chance.
func TestRandomBitmaps(t *testing.T) {
	rnd := rand.New(rand.NewSource(2))
	for range 500 {
		x, y, z := randomBlocks(rnd), randomBlocks(rnd), randomBlocks(rnd)
		a, b, c := x.bitmap(), y.bitmap(), z.bitmap()
		both := x
		for _, m := range y.marks() {
			both[m.Vol][m.Block] = 1
		}
		expectJoin(t, a, b, both.bitmap())
		expectJoin(t, b, a, both.bitmap())
		ab, _ := dirty.Join(a, b)
		bc, _ := dirty.Join(b, c)
		left, _ := dirty.Join(ab, c)
		expectJoin(t, a, bc, left)
		if !dirty.Right(ab) || !slices.Equal(dirty.List(ab), both.marks()) || dirty.Count(ab) != len(both.marks()) {
			t.Fatalf("Join(%v, %v) = %v", a, b, ab)
		}
		expectBuilt(t, rnd, both.marks(), ab)
	}
}

// expectBuilt marks the blocks in another order, at once and one by one.
func expectBuilt(t *testing.T, rnd *rand.Rand, marks []api.Mark, want []api.Bits) {
	t.Helper()
	rnd.Shuffle(len(marks), func(i, j int) { marks[i], marks[j] = marks[j], marks[i] })
	var ws []api.Write
	var m []api.Bits
	for _, b := range marks {
		ws = append(ws, write(b.Vol, b.Block))
		m, _ = dirty.Set(m, b.Vol, b.Block)
	}
	if of, e := dirty.Of(ws); e != api.OK || !slices.Equal(of, want) || !slices.Equal(m, want) {
		t.Fatalf("Of(%v) = %v, %d, Set = %v, want %v", ws, of, e, m, want)
	}
	s, _ := dirty.Bytes(want)
	if got, rest, e := dirty.Parse(s + "rest"); e != api.OK || rest != "rest" || !slices.Equal(got, want) {
		t.Fatalf("Parse(%q) = %v, %q, %d", s, got, rest, e)
	}
}

// P1: many writes to few blocks need no more than one pass.
func TestManyWrites(t *testing.T) {
	ws := make([]api.Write, 2000000)
	for i := range ws {
		ws[i] = write(1+i%255, i%32)
	}
	if m, e := dirty.Of(ws); e != api.OK || !slices.Equal(m, whole()) {
		t.Errorf("Of = %v, %d", m, e)
	}
}

// R1: what was handed in stays as it was, and so does what lies behind it.
func TestArgumentsStay(t *testing.T) {
	all := []api.Bits{bits(1, 1), bits(7, 2), bits(9, 4), bits(3, 0), bits(2, 9)}
	before := slices.Clone(all)
	ws := []api.Write{write(9, 1), write(2, 1), write(0, 0)}
	wsBefore := slices.Clone(ws)
	vs := []api.Vol{vol(1, 3), vol(7, 2)}
	for _, m := range [][]api.Bits{all[:0], all[:1], all[:3], all} {
		dirty.Set(m, 1, 1)
		dirty.Set(m, 8, 0)
		dirty.Set(m, 9, 40)
		dirty.Join(m, all[1:3])
		dirty.Join(all[3:], m)
		dirty.Count(m)
		dirty.List(m)
		dirty.Has(m, 7, 1)
		dirty.Within(m, vs)
		dirty.Bytes(m)
	}
	dirty.Of(ws)
	dirty.Of(ws[:2])
	dirty.All(vs)
	if !slices.Equal(all, before) || !slices.Equal(ws, wsBefore) || !vols.Same(vs, []api.Vol{vol(1, 3), vol(7, 2)}) {
		t.Errorf("the arguments are changed: %v, %v, %v", all, ws, vs)
	}
}

// R1: writing to a result shows in no argument and in no other result, not even where nothing was added.
func TestResultsAreNew(t *testing.T) {
	m := []api.Bits{bits(1, 1), bits(7, 2)}
	before := slices.Clone(m)
	for name, made := range map[string]func() []api.Bits{
		"Set":         func() []api.Bits { r, _ := dirty.Set(m, 1, 0); return r },
		"Set more":    func() []api.Bits { r, _ := dirty.Set(m[:1], 9, 0); return r },
		"Join, left":  func() []api.Bits { r, _ := dirty.Join(m, nil); return r },
		"Join, right": func() []api.Bits { r, _ := dirty.Join(nil, m); return r },
		"Join":        func() []api.Bits { r, _ := dirty.Join(m, m); return r },
		"Of":          func() []api.Bits { r, _ := dirty.Of([]api.Write{write(1, 1), write(3, 3)}); return r },
		"All":         func() []api.Bits { return dirty.All([]api.Vol{vol(1, 3), vol(2, 4)}) },
		"Parse":       func() []api.Bits { r, _, _ := dirty.Parse("\x01\x07\x00\x00\x00\x01"); return r },
	} {
		first := made()
		want := slices.Clone(first)
		first = first[:cap(first)]
		for i := range first {
			first[i] = bits(-1, 0)
		}
		if !slices.Equal(made(), want) || !slices.Equal(m, before) {
			t.Errorf("%s shares memory", name)
		}
	}
	marks := dirty.List(m)
	marks[0] = mark(-1, -1)
	if !slices.Equal(dirty.List(m), []api.Mark{mark(1, 0), mark(7, 1)}) {
		t.Errorf("List shares memory")
	}
}
