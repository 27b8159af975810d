package node_test

import (
	"math"
	"strings"
	"testing"

	"counterfoil/api"
	"counterfoil/node"
	"counterfoil/vols"
)

// P18.2: what a commit of writes does in each mode; whatever else the node has stays.
func TestCommitWrites(t *testing.T) {
	ws := writes(write(7, 3, "q"), write(1, 1, "p"), write(7, 3, "r"))
	folded := writes(write(1, 1, "p"), write(7, 3, "r"))
	for name, c := range map[string]struct {
		n       api.Node
		changed []api.Bits
		open    []api.Write
	}{
		"primary":             {primary(), nil, nil},
		"plain":               {plain(), nil, nil},
		"asking":              {asking(), []api.Bits{bits(1, 2), bits(7, 13)}, nil},
		"copying":             {copying(), []api.Bits{bits(1, 3), bits(7, 9)}, writes(write(1, 0, "a"), folded[0], write(7, 0, "c"), folded[1])},
		"active":              {active(), []api.Bits{bits(1, 3), bits(7, 9)}, writes(write(1, 0, "a"), folded[0], write(7, 0, "c"), folded[1])},
		"idle":                {idle(), []api.Bits{bits(1, 2), bits(7, 8)}, folded},
		"suspended":           {suspended(), []api.Bits{bits(1, 2), bits(7, 13)}, nil},
		"Off, with an anchor": {anchored(plain(), 9, bits(1, 2)), []api.Bits{bits(1, 2), bits(7, 8)}, nil},
		"active, no anchor": {with(active(), func(n *api.Node) { n.Anchor, n.Changed = api.Pos{}, nil }), nil,
			writes(write(1, 0, "a"), folded[0], write(7, 0, "c"), folded[1])},
		"copying, no anchor": {with(copying(), func(n *api.Node) { n.Anchor, n.Changed = api.Pos{}, nil }), nil,
			writes(write(1, 0, "a"), folded[0], write(7, 0, "c"), folded[1])},
		"suspended, no anchor": {with(suspended(), func(n *api.Node) { n.Anchor, n.Changed = api.Pos{}, nil }), nil, nil},
	} {
		want := clone(c.n)
		want.Seq, want.Changed = 11, c.changed
		want.Vols[0].Blocks[1], want.Vols[1].Blocks[3] = "p", "r"
		if len(want.Shots) > 0 {
			want.Shots[0].Kept = writes(write(1, 0, "old"), write(1, 1, "b"), write(7, 3, ""))
			want.Shots[1].Kept = writes(write(1, 1, "b"), write(7, 3, ""))
		}
		if len(c.open) > 0 {
			want.Queue.Open, want.Queue.To = c.open, 11
		}
		got, e := node.Commit(c.n, change(ws...), wide)
		expect(t, name, got, e, want)
		// What else a Change has is for the other kinds.
		got, e = node.Commit(c.n, api.Change{Kind: api.ChWrite, Vol: 99, Size: -1, Writes: ws}, wide)
		expect(t, name+", with more", got, e, want)
	}
}

// P18.2.
func TestCommitEdges(t *testing.T) {
	n := plain()
	got, e := node.Commit(n, change(row(mostWrites, "12345678")...), wide)
	want := clone(n)
	want.Seq = 11
	for i := range mostWrites {
		want.Vols[1].Blocks[i] = "12345678"
	}
	expect(t, "8 writes", got, e, want)

	got, e = node.Commit(n, change(write(7, 31, ""), write(7, 31, "x"), write(7, 31, "y"), write(7, 31, "")), wide)
	want = clone(n)
	want.Seq = 11
	expect(t, "a block again and again", got, e, want)

	n.Seq = limit - 1
	got, e = node.Commit(n, change(write(1, 0, "z")), wide)
	want = clone(n)
	want.Seq, want.Vols[0].Blocks[0] = limit, "z"
	expect(t, "the last commit", got, e, want)

	n = with(active(), func(n *api.Node) { n.Seq, n.Queue.To = limit-1, limit-1 })
	got, e = node.Commit(n, change(write(1, 0, "a")), wide)
	want = clone(n)
	want.Seq, want.Queue.To = limit, limit
	want.Shots[1].Kept = writes(write(1, 0, "a"))
	expect(t, "the last commit waits", got, e, want)
}

// errorsOfWrites are commits that are wrong in a way, whatever the mode is.
func errorsOfWrites() map[string]struct {
	ws []api.Write
	e  api.Errno
} {
	return map[string]struct {
		ws []api.Write
		e  api.Errno
	}{
		"no writes":             {nil, api.ErrArg},
		"an empty list":         {[]api.Write{}, api.ErrArg},
		"9 writes":              {row(mostWrites+1, ""), api.ErrArg},
		"a block 9 times":       {append(row(mostWrites, ""), write(7, 0, "")), api.ErrArg},
		"9 writes that fail":    {append(row(mostWrites, ""), write(9, 0, "")), api.ErrArg},
		"no volume":             {writes(write(1, 0, "x"), write(2, 0, "x")), api.ErrNone},
		"no block":              {writes(write(1, 0, "x"), write(1, 2, "x")), api.ErrRange},
		"no block below":        {writes(write(7, -1, "x")), api.ErrRange},
		"too long":              {writes(write(1, 0, "x"), write(1, 1, "123456789")), api.ErrLong},
		"the first error first": {writes(write(1, 2, ""), write(2, 0, ""), write(1, 0, strings.Repeat("x", 99))), api.ErrRange},
		"far off":               {writes(write(math.MinInt, math.MaxInt, "")), api.ErrNone},
	}
}

// P18.2: in each mode, and where there is also no room for the writes in a snapshot, or in the bound.
func TestCommitErrors(t *testing.T) {
	narrow := api.Bound{Txns: 1, Bytes: 1, Hold: true}
	for name, n := range primaries() {
		crowded := clone(n)
		if len(n.Shots) > 0 {
			crowded.Shots[0].Kept = row(mostKept, "")
		}
		last := clone(plain())
		last.Seq = limit
		for what, c := range errorsOfWrites() {
			for _, b := range []api.Bound{wide, narrow} {
				got, e := node.Commit(n, change(c.ws...), b)
				expectNone(t, name+", "+what, got, e, c.e)
				got, e = node.Commit(crowded, change(c.ws...), b)
				expectNone(t, name+", crowded, "+what, got, e, c.e)
			}
			got, e := node.Commit(last, change(c.ws...), wide)
			expectNone(t, "at 2^40, "+what, got, e, api.ErrFull)
		}
		for _, kind := range []int{0, -1, 5, math.MinInt, math.MaxInt} {
			got, e := node.Commit(n, api.Change{Kind: kind, Vol: 9, Size: 1, Writes: writes(write(1, 0, "x"))}, wide)
			expectNone(t, name+", no kind", got, e, api.ErrArg)
			got, e = node.Commit(last, api.Change{Kind: kind}, wide)
			expectNone(t, "at 2^40, no kind", got, e, api.ErrFull)
		}
	}
}

// P18.2: a bound that is not valid comes ahead of all but the node, also where there is nothing to be bounded.
func TestWrongBounds(t *testing.T) {
	for name, n := range rightNodes() {
		for _, b := range []api.Bound{{}, {Txns: 1}, {Bytes: 1}, {Txns: limit + 1, Bytes: 1}, {Txns: 1, Bytes: limit + 1, Hold: true}, {Txns: -1, Bytes: 5}, {Txns: math.MinInt, Bytes: math.MaxInt}} {
			for _, c := range []api.Change{change(write(1, 0, "x")), change(), change(write(2, 0, "")), {}, {Kind: api.ChDrop, Vol: 1}, {Kind: api.ChAdd, Vol: 1}} {
				got, e := node.Commit(n, c, b)
				expectNone(t, name+", no bound", got, e, api.ErrArg)
			}
		}
	}
	last := with(plain(), func(n *api.Node) { n.Seq = limit })
	got, e := node.Commit(last, change(write(1, 0, "x")), api.Bound{})
	expectNone(t, "no bound at 2^40", got, e, api.ErrArg)
}

// P18.2: 2^40 commits are all, in each mode and for each kind.
func TestCommitFull(t *testing.T) {
	for name, n := range map[string]api.Node{
		"plain":   with(plain(), func(n *api.Node) { n.Seq = limit }),
		"asking":  with(asking(), func(n *api.Node) { n.Seq = limit }),
		"active":  with(active(), func(n *api.Node) { n.Seq, n.Queue.To = limit, limit }),
		"copying": with(copying(), func(n *api.Node) { n.Seq, n.Queue.To = limit, limit }),
	} {
		for _, c := range []api.Change{change(write(1, 0, "x")), {Kind: api.ChAdd, Vol: 9, Size: 1}, {Kind: api.ChDrop, Vol: 1}, {Kind: api.ChDrop, Vol: 99}, {Kind: api.ChResize, Vol: 1, Size: 1}} {
			got, e := node.Commit(n, c, api.Bound{Txns: 1, Bytes: 1, Hold: true})
			expectNone(t, name+" at 2^40", got, e, api.ErrFull)
		}
	}
}

// P18.2: the room of each snapshot counts by itself, and what it has kept already needs none.
func TestCommitSnap(t *testing.T) {
	for i := range 2 {
		for name, n := range map[string]api.Node{"Off": primary(), "active": active(), "copying": copying(), "suspended": suspended()} {
			n.Shots[0].Kept, n.Shots[1].Kept = nil, nil
			n.Shots[i].Kept = row(mostKept-1, "kept")
			ws := writes(write(7, 0, "x"), write(7, 31, "y"), write(7, 14, "z"), write(7, 31, "w"))
			got, e := node.Commit(n, change(ws...), wide)
			if e != api.OK || len(got.Shots[i].Kept) != mostKept || len(got.Shots[1-i].Kept) != 3 || !node.Right(got) {
				t.Errorf("%s, 16 kept: %+v, %d", name, got.Shots, e)
			}
			if got.Shots[i].Kept[0].Data != "kept" || got.Shots[i].Kept[15] != write(7, 31, "") || got.Shots[1-i].Kept[0] != write(7, 0, "c") {
				t.Errorf("%s, kept: %+v", name, got.Shots)
			}
			full := got
			more := append(ws, write(7, 16, ""))
			for _, b := range []api.Bound{wide, {Txns: 1, Bytes: 1, Hold: true}, {Txns: 1, Bytes: 1}} {
				got, e = node.Commit(n, change(more...), b)
				expectNone(t, name+", 17 kept", got, e, api.ErrSnap)
				got, e = node.Commit(full, change(write(7, 15, "")), b)
				expectNone(t, name+", one more kept", got, e, api.ErrSnap)
			}
			got, e = node.Commit(full, change(write(7, 31, "x"), write(7, 3, "")), wide)
			if e != api.OK || len(got.Shots[i].Kept) != mostKept {
				t.Errorf("%s, none more kept: %+v, %d", name, got.Shots, e)
			}
		}
	}
}

// lagCases are bounds for a commit of 9 bytes behind the four commits and 27 bytes that wait.
func lagCases() map[string]struct {
	txns, bytes int
	within      bool
} {
	return map[string]struct {
		txns, bytes int
		within      bool
	}{
		"exact":          {5, 36, true},
		"too many":       {4, 36, false},
		"too long":       {5, 35, false},
		"the least":      {1, 1, false},
		"many":           {limit, 36, true},
		"far too long":   {limit, 1, false},
		"long":           {5, limit, true},
		"far too many":   {1, limit, false},
		"one more":       {6, 37, true},
		"both one short": {4, 35, false},
	}
}

// P18.2 and P4: a bound that holds refuses, another one spills; where nothing is forwarded, nothing is bounded.
func TestCommitLag(t *testing.T) {
	c := change(write(1, 1, "x"))
	for name, l := range lagCases() {
		for mode, n := range map[string]api.Node{"active": active(), "copying": copying()} {
			want := clone(n)
			want.Seq, want.Vols[0].Blocks[1] = 11, "x"
			want.Shots[0].Kept, want.Shots[1].Kept = writes(write(1, 0, "old"), write(1, 1, "b")), writes(write(1, 1, "b"))
			want.Changed = []api.Bits{bits(1, 3), bits(7, 1)}
			spilt := clone(want)
			spilt.Mode, spilt.Queue, spilt.Copy, spilt.Got, spilt.Full = api.Suspended, api.Queue{}, nil, 0, false
			want.Queue.Open, want.Queue.To = writes(write(1, 0, "a"), write(1, 1, "x"), write(7, 0, "c")), 11

			held, e := node.Commit(n, c, api.Bound{Txns: l.txns, Bytes: l.bytes, Hold: true})
			free, f := node.Commit(n, c, api.Bound{Txns: l.txns, Bytes: l.bytes})
			if l.within {
				expect(t, mode+", "+name+", Hold", held, e, want)
				expect(t, mode+", "+name, free, f, want)
			} else {
				expectNone(t, mode+", "+name+", Hold", held, e, api.ErrLag)
				expect(t, mode+", "+name, free, f, spilt)
			}
		}
		for mode, n := range map[string]api.Node{"primary": primary(), "asking": asking(), "suspended": suspended()} {
			for _, hold := range []bool{false, true} {
				got, e := node.Commit(n, c, api.Bound{Txns: l.txns, Bytes: l.bytes, Hold: hold})
				if e != api.OK || got.Mode != n.Mode || got.Seq != 11 {
					t.Errorf("%s, %s: %+v, %d", mode, name, got, e)
				}
			}
		}
	}
}

// P18.2: a spilt commit of a node without an anchor leaves nothing marked: only a full copy can follow.
func TestSpillWithoutAnchor(t *testing.T) {
	n := with(copying(), func(n *api.Node) { n.Anchor, n.Changed = api.Pos{}, nil })
	got, e := node.Commit(n, change(write(7, 9, "x")), api.Bound{Txns: 4, Bytes: 999})
	if e != api.OK || got.Mode != api.Suspended || len(got.Changed) > 0 || len(got.Anchor.Line) > 0 || !node.Right(got) {
		t.Errorf("%+v, %d", got, e)
	}
}

func shape(kind, vol, size int) api.Change { return api.Change{Kind: kind, Vol: vol, Size: size} }

// P18.2: such a commit forgets the anchor, and changes nothing but that, Vols and Seq.
func TestCommitShape(t *testing.T) {
	for name, n := range map[string]api.Node{"plain": plain(), "anchored": anchored(plain(), 9, bits(1, 2), bits(7, 1<<31))} {
		for what, c := range map[string]struct {
			c    api.Change
			edit func(vs []api.Vol) []api.Vol
		}{
			"ChAdd first": {shape(api.ChAdd, 255, 1), func(vs []api.Vol) []api.Vol { return append(vs, api.Vol{ID: 255, Blocks: []string{""}}) }},
			"ChAdd between": {shape(api.ChAdd, 3, 2), func(vs []api.Vol) []api.Vol {
				return []api.Vol{vs[0], {ID: 3, Blocks: []string{"", ""}}, vs[1]}
			}},
			"ChDrop":   {shape(api.ChDrop, 7, -1), func(vs []api.Vol) []api.Vol { return vs[:1] }},
			"ChResize": {shape(api.ChResize, 1, 1), func(vs []api.Vol) []api.Vol { vs[0].Blocks = vs[0].Blocks[:1]; return vs }},
			"ChResize, more": {shape(api.ChResize, 1, 3), func(vs []api.Vol) []api.Vol {
				vs[0].Blocks = append(vs[0].Blocks, "")
				return vs
			}},
			"ChResize, the same":  {shape(api.ChResize, 7, 32), func(vs []api.Vol) []api.Vol { return vs }},
			"ChDrop, with writes": {api.Change{Kind: api.ChDrop, Vol: 7, Writes: row(99, "far too long")}, func(vs []api.Vol) []api.Vol { return vs[:1] }},
		} {
			want := clone(n)
			want.Vols, want.Seq = c.edit(want.Vols), 11
			want.Anchor, want.Changed = api.Pos{}, nil
			got, e := node.Commit(n, c.c, api.Bound{Txns: 1, Bytes: 1, Hold: true})
			expect(t, name+", "+what, got, e, want)
		}
	}
	one, _ := node.First(0, []int{4, 2})
	none, e := node.Commit(one, shape(api.ChDrop, 4, 0), wide)
	if e != api.OK || len(none.Vols) != 0 || none.Seq != 1 || !node.Right(none) {
		t.Errorf("ChDrop of the last volume: %+v, %d", none, e)
	}
	some, e := node.Commit(none, shape(api.ChAdd, 1, 32), wide)
	if e != api.OK || len(some.Vols) != 1 || some.Seq != 2 || !node.Right(some) {
		t.Errorf("ChAdd of the first volume: %+v, %d", some, e)
	}
}

// P18.2: ErrState comes ahead of the errors of layer 7.
func TestCommitShapeErrors(t *testing.T) {
	four, _ := vols.Blank([]int{1, 1, 2, 1, 3, 1, 7, 1})
	for what, c := range map[string]struct {
		c    api.Change
		full bool
		e    api.Errno
	}{
		"ChAdd, there":            {shape(api.ChAdd, 7, 1), false, api.ErrThere},
		"ChAdd, ID 0":             {shape(api.ChAdd, 0, 1), false, api.ErrArg},
		"ChAdd, ID 256":           {shape(api.ChAdd, 256, 1), false, api.ErrArg},
		"ChAdd, Size 0":           {shape(api.ChAdd, 9, 0), false, api.ErrArg},
		"ChAdd, Size 33":          {shape(api.ChAdd, 7, 33), false, api.ErrArg},
		"ChAdd, four there":       {shape(api.ChAdd, 9, 1), true, api.ErrFull},
		"ChAdd, there among four": {shape(api.ChAdd, 7, 1), true, api.ErrThere},
		"ChDrop, none":            {shape(api.ChDrop, 2, 1), false, api.ErrNone},
		"ChDrop, ID -1":           {shape(api.ChDrop, -1, 1), false, api.ErrNone},
		"ChResize, none":          {shape(api.ChResize, 2, 1), false, api.ErrNone},
		"ChResize, Size 0":        {shape(api.ChResize, 7, 0), false, api.ErrArg},
		"ChResize, Size 33":       {shape(api.ChResize, 2, 33), false, api.ErrArg},
	} {
		n := plain()
		if c.full {
			n.Vols = four
		}
		got, e := node.Commit(n, c.c, wide)
		expectNone(t, what, got, e, c.e)
		for name, n := range primaries() {
			if name == "plain" {
				continue
			}
			got, e := node.Commit(n, c.c, wide)
			expectNone(t, name+", "+what, got, e, api.ErrState)
			got, e = node.Commit(n, shape(c.c.Kind, map[int]int{api.ChAdd: 9, api.ChDrop: 1, api.ChResize: 1}[c.c.Kind], 1), wide)
			expectNone(t, name+", none wrong", got, e, api.ErrState)
			if n.Mode != api.Off {
				n.Shots = nil
				got, e = node.Commit(n, c.c, wide)
				expectNone(t, name+", no snapshots, "+what, got, e, api.ErrState)
			}
		}
	}
	one := with(primary(), func(n *api.Node) { n.Shots = n.Shots[:1] })
	got, e := node.Commit(one, shape(api.ChDrop, 1, 0), wide)
	expectNone(t, "one snapshot", got, e, api.ErrState)
}
