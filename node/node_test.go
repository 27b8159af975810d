package node_test

import (
	"math"
	"reflect"
	"slices"
	"strings"
	"testing"

	"counterfoil/api"
	"counterfoil/node"
	"counterfoil/vols"
)

const (
	limit      = 1 << 40 // the greatest number
	mostKept   = 16      // saved contents of a snapshot
	mostWrites = 8       // of a transaction
	mostEpochs = 64      // branches of a line
)

var wide = api.Bound{Txns: limit, Bytes: limit}

func write(vol, block int, data string) api.Write {
	return api.Write{Vol: vol, Block: block, Data: data}
}

func writes(ws ...api.Write) []api.Write { return ws }

// row makes n folded writes, of the first blocks of volume 7 on.
func row(n int, data string) []api.Write {
	var ws []api.Write
	for i := range n {
		ws = append(ws, write(7, i, data))
	}
	return ws
}

func change(ws ...api.Write) api.Change { return api.Change{Kind: api.ChWrite, Writes: ws} }

func set(from, to int, ws ...api.Write) api.Set { return api.Set{From: from, To: to, Writes: ws} }

func path(l ...api.Branch) []api.Branch { return l }

func branch(epoch, at int) api.Branch { return api.Branch{Epoch: epoch, At: at} }

func bits(vol int, mask uint64) api.Bits { return api.Bits{Vol: vol, Mask: mask} }

func shot(n, seq int, kept ...api.Write) api.Shot { return api.Shot{N: n, Seq: seq, Kept: kept} }

func history() []api.Branch { return path(branch(1, 0), branch(3, 4)) }

// sample has blocks enough for more saved contents than a snapshot may have.
func sample() []api.Vol {
	vs, _ := vols.Blank([]int{1, 2, 7, 32})
	vs[0].Blocks[0], vs[0].Blocks[1], vs[1].Blocks[0] = "a", "b", "c"
	return vs
}

// primary is Off, at commit 10 of epoch 3; no field that may be there without a mirror is zero.
func primary() api.Node {
	return api.Node{
		Role: api.Primary, Valid: true, Known: 3, Line: history(), Seq: 10, Vols: sample(),
		Shots: []api.Shot{shot(2, 5, write(1, 0, "old")), shot(7, 8)}, Shot: 9,
		Sync: 21, From: 22, FromN: 23, Next: 24,
	}
}

func plain() api.Node {
	n := primary()
	n.Shots = nil
	return n
}

func anchored(n api.Node, seq int, changed ...api.Bits) api.Node {
	n.Anchor, n.Changed = api.Pos{Line: history(), Seq: seq}, changed
	return n
}

func asking() api.Node {
	n := anchored(primary(), 8, bits(7, 5))
	n.Mode = api.Asking
	return n
}

func suspended() api.Node {
	n := anchored(primary(), 8, bits(7, 5))
	n.Mode = api.Suspended
	return n
}

// waiting are the commits 7 to 10, of which 9 and 10 are in the open set.
func waiting() api.Queue {
	return api.Queue{Sets: []api.Set{set(6, 7, write(1, 0, "a")), set(7, 8)}, Open: writes(write(1, 0, "a"), write(7, 0, "c")), From: 8, To: 10}
}

func copying() api.Node {
	n := anchored(primary(), 5, bits(1, 3), bits(7, 1))
	n.Mode, n.Queue, n.Copy, n.Got, n.Full = api.Copying, waiting(), row(17, "x"), 2, true
	return n
}

func active() api.Node {
	n := anchored(primary(), 6, bits(1, 1), bits(7, 1))
	n.Mode, n.Queue = api.Active, waiting()
	return n
}

// idle is a node whose commits are all at the other site.
func idle() api.Node {
	n := anchored(primary(), 10)
	n.Mode, n.Queue = api.Active, api.Queue{From: 10, To: 10}
	return n
}

func remote() api.Node {
	n := anchored(plain(), 10)
	n.Role, n.Known = api.Remote, 6
	return n
}

func stale() api.Node {
	n := anchored(remote(), 8, bits(1, 2))
	n.Stale = true
	return n
}

// shielded is in the middle of a copy: its volumes are not the safe ones.
func shielded() api.Node {
	n := anchored(remote(), 8, bits(1, 2))
	n.Shield, n.Kept = true, writes(write(1, 0, "kept"), write(7, 31, "too"))
	return n
}

// unfilled has nothing to be promoted with, during its first copy.
func unfilled() api.Node {
	return api.Node{Role: api.Remote, Known: 3, Vols: sample(), From: 3, FromN: 1, Next: 2}
}

// rightNodes has one of each kind.
func rightNodes() map[string]api.Node {
	return map[string]api.Node{
		"primary": primary(), "plain": plain(), "asking": asking(), "copying": copying(), "active": active(), "idle": idle(), "suspended": suspended(),
		"remote": remote(), "stale": stale(), "shielded": shielded(), "unfilled": unfilled(), "second": node.Second(),
	}
}

func primaries() map[string]api.Node {
	all := rightNodes()
	for name, n := range all {
		if n.Role != api.Primary {
			delete(all, name)
		}
	}
	return all
}

func with(n api.Node, edit func(n *api.Node)) api.Node {
	edit(&n)
	return n
}

func copied[T any](l []T) []T { return append([]T(nil), l...) }

// clone has no list in common with n, and only nil ones where there is nothing.
func clone(n api.Node) api.Node {
	n.Line, n.Kept, n.Changed, n.Copy = copied(n.Line), copied(n.Kept), copied(n.Changed), copied(n.Copy)
	n.Anchor.Line, n.Queue.Open = copied(n.Anchor.Line), copied(n.Queue.Open)
	n.Vols, n.Shots, n.Queue.Sets = copied(n.Vols), copied(n.Shots), copied(n.Queue.Sets)
	for i := range n.Vols {
		n.Vols[i].Blocks = copied(n.Vols[i].Blocks)
	}
	for i := range n.Shots {
		n.Shots[i].Kept = copied(n.Shots[i].Kept)
	}
	for i := range n.Queue.Sets {
		n.Queue.Sets[i].Writes = copied(n.Queue.Sets[i].Writes)
	}
	return n
}

func same(a, b api.Node) bool { return reflect.DeepEqual(clone(a), clone(b)) }

func expect(t *testing.T, name string, got api.Node, e api.Errno, want api.Node) {
	t.Helper()
	if e != api.OK || !same(got, want) {
		t.Errorf("%s: error %d\n got %+v\nwant %+v", name, e, got, want)
	}
	if !node.Right(got) {
		t.Errorf("%s: %+v is not valid", name, got)
	}
}

func expectNone(t *testing.T, name string, got api.Node, e api.Errno, want api.Errno) {
	t.Helper()
	if e != want || !same(got, api.Node{}) {
		t.Errorf("%s: %+v, %d, want error %d", name, got, e, want)
	}
}

func expectText(t *testing.T, name string, got string, e api.Errno, want string, wantErr api.Errno) {
	t.Helper()
	if got != want || e != wantErr {
		t.Errorf("%s: %q, %d, want %q, %d", name, got, e, want, wantErr)
	}
}

// P18.1.
func TestFirst(t *testing.T) {
	for _, sizes := range [][]int{nil, {}, {1, 2}, {255, 32}, {1, 1, 2, 2, 3, 3, 255, 32}} {
		for site, epoch := range []int{1, 2} {
			n, e := node.First(site, sizes)
			blank, _ := vols.Blank(sizes)
			expect(t, "First", n, e, api.Node{Role: api.Primary, Valid: true, Known: epoch, Line: path(branch(epoch, 0)), Vols: blank})
		}
	}
	for _, site := range []int{-1, 2, 3, math.MinInt, math.MaxInt} {
		n, e := node.First(site, []int{1, 2})
		expectNone(t, "First at no site", n, e, api.ErrArg)
	}
	for _, sizes := range [][]int{{1}, {1, 0}, {0, 1}, {1, 33}, {256, 1}, {1, -1}, {2, 1, 1, 1}, {1, 1, 1, 1}, {1, 2, 3}, {1, 1, 2, 1, 3, 1, 4, 1, 5, 1}, {1, math.MaxInt}} {
		for _, site := range []int{0, 1, 2} {
			n, e := node.First(site, sizes)
			expectNone(t, "First with wrong sizes", n, e, api.ErrArg)
		}
	}
}

// P18.1.
func TestSecond(t *testing.T) {
	expect(t, "Second", node.Second(), api.OK, api.Node{Role: api.Remote})
}

// P18.1: with a Shield, the safe volumes are not Vols.
func TestSafe(t *testing.T) {
	for name, n := range rightNodes() {
		want, place := clone(n).Vols, api.Pos{Line: n.Line, Seq: n.Seq}
		if n.Shield {
			want[0].Blocks[0], want[1].Blocks[31] = "kept", "too"
		}
		if !n.Valid {
			want, place = nil, api.Pos{}
		}
		vs, p, ok := node.Safe(n)
		if ok != n.Valid || !vols.Same(vs, want) || p.Seq != place.Seq || !slices.Equal(p.Line, place.Line) {
			t.Errorf("%s: Safe = %v, %v, %v, want %v, %v", name, vs, p, ok, want, place)
		}
	}
	half := remote()
	half.Valid = false
	if vs, p, ok := node.Safe(half); !node.Right(half) || ok || len(vs) > 0 || len(p.Line) > 0 || p.Seq != 0 {
		t.Errorf("Safe of a node with a line that is not Valid = %v, %v, %v", vs, p, ok)
	}
}

// R1: what Safe returns belongs to the caller.
func TestSafeIsNew(t *testing.T) {
	for name, n := range rightNodes() {
		before := clone(n)
		vs, p, _ := node.Safe(n)
		for _, v := range vs {
			for i := range v.Blocks {
				v.Blocks[i] = "spoilt"
			}
		}
		for _, l := range [][]api.Branch{p.Line[:cap(p.Line)]} {
			for i := range l {
				l[i] = branch(77, 77)
			}
		}
		if !same(n, before) {
			t.Errorf("%s: Safe has shared what it returned: %+v", name, n)
		}
	}
}

// P18.2: a primary answers in all modes.
func TestRead(t *testing.T) {
	for name, n := range primaries() {
		for _, c := range []struct {
			vol, block int
			want       string
			e          api.Errno
		}{
			{1, 0, "a", api.OK}, {1, 1, "b", api.OK}, {7, 0, "c", api.OK}, {7, 31, "", api.OK},
			{1, 2, "", api.ErrRange}, {7, 32, "", api.ErrRange}, {1, -1, "", api.ErrRange}, {1, math.MinInt, "", api.ErrRange},
			{2, 0, "", api.ErrNone}, {0, 0, "", api.ErrNone}, {math.MaxInt, math.MaxInt, "", api.ErrNone},
		} {
			s, e := node.Read(n, c.vol, c.block)
			expectText(t, name+", Read", s, e, c.want, c.e)
		}
	}
}

// calls are all functions that are under the write check; those that return no node return a zero one.
func calls() map[string]func(n api.Node) (api.Node, api.Errno) {
	return map[string]func(n api.Node) (api.Node, api.Errno){
		"Commit":          func(n api.Node) (api.Node, api.Errno) { return node.Commit(n, change(write(1, 0, "z")), wide) },
		"Commit, nothing": func(n api.Node) (api.Node, api.Errno) { return node.Commit(n, change(), wide) },
		"Commit, no kind": func(n api.Node) (api.Node, api.Errno) { return node.Commit(n, api.Change{}, wide) },
		"Commit, ChAdd": func(n api.Node) (api.Node, api.Errno) {
			return node.Commit(n, api.Change{Kind: api.ChAdd, Vol: 9, Size: 1}, wide)
		},
		"Read": func(n api.Node) (api.Node, api.Errno) {
			s, e := node.Read(n, 1, 0)
			return api.Node{Seq: len(s)}, e
		},
		"Read, no volume": func(n api.Node) (api.Node, api.Errno) {
			s, e := node.Read(n, 99, 99)
			return api.Node{Seq: len(s)}, e
		},
		"Attach":  node.Attach,
		"Suspend": node.Suspend,
		"Detach":  node.Detach,
		"Demote":  node.Demote,
		"Shoot": func(n api.Node) (api.Node, api.Errno) {
			m, k, e := node.Shoot(n)
			m.Seq += k
			return m, e
		},
		"Unshoot":       func(n api.Node) (api.Node, api.Errno) { return node.Unshoot(n, 2) },
		"Unshoot, none": func(n api.Node) (api.Node, api.Errno) { return node.Unshoot(n, 99) },
		"Peek": func(n api.Node) (api.Node, api.Errno) {
			s, e := node.Peek(n, 2, 1, 0)
			return api.Node{Seq: len(s)}, e
		},
		"Peek, none": func(n api.Node) (api.Node, api.Errno) {
			s, e := node.Peek(n, 99, 99, 99)
			return api.Node{Seq: len(s)}, e
		},
		"Revert":       func(n api.Node) (api.Node, api.Errno) { return node.Revert(n, 2) },
		"Revert, none": func(n api.Node) (api.Node, api.Errno) { return node.Revert(n, 99) },
	}
}

// P18.2, P18.3, P18.4, P18.5: the write check comes ahead of all that is wrong beside it; a remote at 2^40 is refused for what it is.
func TestWriteCheck(t *testing.T) {
	last := func(n *api.Node) { n.Seq = limit }
	for name, c := range map[string]struct {
		n    api.Node
		want api.Errno
	}{
		"remote": {remote(), api.ErrRole}, "shielded": {shielded(), api.ErrRole}, "unfilled": {unfilled(), api.ErrRole}, "second": {node.Second(), api.ErrRole},
		"stale":           {stale(), api.ErrStale},
		"stale, shielded": {with(shielded(), func(n *api.Node) { n.Stale = true }), api.ErrStale},
		"stale, nothing":  {with(node.Second(), func(n *api.Node) { n.Stale = true }), api.ErrStale},
		"remote at 2^40":  {with(remote(), last), api.ErrRole},
		"stale at 2^40":   {with(stale(), last), api.ErrStale},
	} {
		if !node.Right(c.n) {
			t.Fatalf("%s is not valid", name)
		}
		for call, f := range calls() {
			got, e := f(c.n)
			expectNone(t, name+", "+call, got, e, c.want)
		}
		got, e := node.Commit(c.n, change(write(1, 0, "z")), api.Bound{})
		expectNone(t, name+", no bound", got, e, api.ErrArg)
	}
}

// The chapter's example.
func TestExample(t *testing.T) {
	n, e := node.First(0, []int{1, 2})
	if e != api.OK || len(n.Vols) != 1 || n.Vols[0].ID != 1 || len(n.Vols[0].Blocks) != 2 || n.Known != 1 || n.Seq != 0 {
		t.Fatalf("First: %+v, %d", n, e)
	}
	n, e = node.Commit(n, change(write(1, 0, "a")), wide)
	if e != api.OK || n.Seq != 1 {
		t.Fatalf("Commit: %+v, %d", n, e)
	}
	n, e = node.Fence(n, 2)
	if e != api.OK {
		t.Fatalf("Fence: %d", e)
	}
	s, e := node.Read(n, 1, 0)
	expectText(t, "Read", s, e, "", api.ErrStale)
	n, e = node.Promote(n, 0)
	want := api.Node{Role: api.Primary, Valid: true, Known: 3, Line: path(branch(1, 0), branch(3, 1)), Seq: 1, Mode: api.Suspended,
		Vols: []api.Vol{{ID: 1, Blocks: []string{"a", ""}}}}
	expect(t, "Promote", n, e, want)
}

// roomy is a node whose lists have room behind their ends, with what must not be touched in it.
func roomy(n api.Node) (api.Node, func() bool) {
	n = clone(n)
	n.Line = append(n.Line, branch(90, 90), branch(91, 91))[:len(n.Line)]
	n.Anchor.Line = append(n.Anchor.Line, branch(92, 92))[:len(n.Anchor.Line)]
	n.Changed = append(n.Changed, bits(93, 93), bits(94, 94))[:len(n.Changed)]
	n.Shots = append(n.Shots, shot(95, 95, write(9, 5, "")), shot(96, 96))[:len(n.Shots)]
	n.Kept = append(n.Kept, write(9, 7, "z"), write(9, 8, "z"))[:len(n.Kept)]
	n.Queue.Sets = append(n.Queue.Sets, set(98, 99, write(9, 9, "z")))[:len(n.Queue.Sets)]
	n.Queue.Open = append(n.Queue.Open, write(99, 99, "z"), write(99, 99, "z"))[:len(n.Queue.Open)]
	n.Vols = append(n.Vols, api.Vol{ID: 99, Blocks: []string{"z"}})[:len(n.Vols)]
	for i := range n.Shots {
		n.Shots[i].Kept = append(n.Shots[i].Kept, write(97, 97, "z"), write(97, 98, "z"))[:len(n.Shots[i].Kept)]
	}
	all := n
	all.Line, all.Anchor.Line = n.Line[:cap(n.Line)], n.Anchor.Line[:cap(n.Anchor.Line)]
	all.Changed, all.Shots, all.Kept = n.Changed[:cap(n.Changed)], n.Shots[:cap(n.Shots)], n.Kept[:cap(n.Kept)]
	all.Queue.Sets, all.Queue.Open = n.Queue.Sets[:cap(n.Queue.Sets)], n.Queue.Open[:cap(n.Queue.Open)]
	all.Vols = n.Vols[:cap(n.Vols)]
	before := clone(all)
	return n, func() bool { return same(all, before) }
}

// R1: what was handed in stays as it was, and so does what lies behind it.
func TestArgumentsStay(t *testing.T) {
	for name, n := range rightNodes() {
		a, unchanged := roomy(n)
		var next []api.Node
		for _, f := range calls() {
			m, e := f(a)
			if e == api.OK && node.Right(m) {
				next = append(next, m)
			}
		}
		for _, epoch := range []int{0, 3, 99} {
			m, _ := node.Fence(a, epoch)
			next = append(next, m)
		}
		for site := range 2 {
			m, _ := node.Promote(a, site)
			next = append(next, m)
		}
		node.Safe(a)
		for _, m := range next {
			for _, f := range calls() {
				f(m)
			}
			fenced, _ := node.Fence(m, 1000)
			node.Promote(fenced, 0)
		}
		if !unchanged() || !same(a, n) {
			t.Errorf("%s: the argument is changed: %+v", name, a)
		}
	}
}

// R1: writes that were handed in are not retained.
func TestWritesAreNotKept(t *testing.T) {
	for name, n := range map[string]api.Node{"plain": plain(), "primary": primary(), "active": active(), "copying": copying(), "suspended": suspended()} {
		ws := writes(write(1, 1, "p"), write(7, 3, "q"))
		got, e := node.Commit(n, change(ws...), wide)
		want := clone(got)
		for i := range ws {
			ws[i] = write(-1, -1, strings.Repeat("spoilt", 9))
		}
		expect(t, name, got, e, want)
	}
	sizes := []int{1, 2}
	n, e := node.First(0, sizes)
	want := clone(n)
	sizes[0], sizes[1] = 99, 99
	expect(t, "First", n, e, want)
}

// R3 and R4: nodes that come from the same one do not show what is done to each other.
func TestBranchesAreApart(t *testing.T) {
	base := with(plain(), func(n *api.Node) { n.Shots = make([]api.Shot, 0, 8) })
	left, _, _ := node.Shoot(base)
	left, _ = node.Commit(left, change(write(1, 0, "l")), wide)
	want := clone(left)
	right, _, _ := node.Shoot(base)
	right, _ = node.Commit(right, change(write(7, 9, "r"), write(1, 1, "r")), wide)
	node.Revert(right, 10)
	expect(t, "left", left, api.OK, want)
	fenced, _ := node.Fence(left, 4)
	one, _ := node.Promote(fenced, 0)
	want = clone(one)
	node.Promote(fenced, 1)
	expect(t, "one", one, api.OK, want)
}
