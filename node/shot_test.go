package node_test

import (
	"math"
	"testing"

	"counterfoil/api"
	"counterfoil/node"
)

// P18.5.
func TestShoot(t *testing.T) {
	for name, n := range primaries() {
		n.Shots = nil
		one, k, e := node.Shoot(n)
		want := with(n, func(n *api.Node) { n.Shots, n.Shot = []api.Shot{shot(10, 10)}, 10 })
		expect(t, name+", first", one, e, want)
		two, l, e := node.Shoot(one)
		want.Shots, want.Shot = []api.Shot{shot(10, 10), shot(11, 10)}, 11
		expect(t, name+", second", two, e, want)
		if k != 10 || l != 11 {
			t.Errorf("%s: the numbers are %d, %d", name, k, l)
		}
		none, l, e := node.Shoot(two)
		expectNone(t, name+", third", none, e, api.ErrFull)
		if l != 0 {
			t.Errorf("%s: the number of no snapshot is %d", name, l)
		}
	}
	fresh, _ := node.First(1, nil)
	got, k, e := node.Shoot(fresh)
	expect(t, "of no volumes", got, e, with(fresh, func(n *api.Node) { n.Shots, n.Shot = []api.Shot{shot(1, 0)}, 1 }))
	if k != 1 {
		t.Errorf("the first number is %d", k)
	}
	full := with(plain(), func(n *api.Node) { n.Seq = limit })
	got, _, e = node.Shoot(full)
	expect(t, "at 2^40", got, e, with(full, func(n *api.Node) { n.Shots, n.Shot = []api.Shot{shot(10, limit)}, 10 }))
}

// P18.5: the last number is 2^40, whatever has been removed.
func TestShootNumbers(t *testing.T) {
	n := with(plain(), func(n *api.Node) { n.Shot = limit - 1 })
	last, k, e := node.Shoot(n)
	expect(t, "the last number", last, e, with(n, func(n *api.Node) { n.Shots, n.Shot = []api.Shot{shot(limit, 10)}, limit }))
	if k != limit {
		t.Errorf("the last number is %d", k)
	}
	got, k, e := node.Shoot(last)
	expectNone(t, "beyond the last number", got, e, api.ErrFull)
	none, e := node.Unshoot(last, limit)
	expect(t, "Unshoot of the last number", none, e, with(n, func(n *api.Node) { n.Shot = limit }))
	got, l, e := node.Shoot(none)
	expectNone(t, "beyond the last number, once it is gone", got, e, api.ErrFull)
	if k != 0 || l != 0 {
		t.Errorf("the numbers of no snapshots are %d, %d", k, l)
	}
}

// P18.5: numbers that no snapshot has are told ahead of whatever else is wrong.
func TestNoShot(t *testing.T) {
	all := primaries()
	all["plain at 2^40"] = with(plain(), func(n *api.Node) { n.Seq = limit })
	for name, n := range all {
		for _, k := range []int{0, 1, 3, 6, 8, 9, 10, -1, -2, math.MinInt, math.MaxInt} {
			got, e := node.Unshoot(n, k)
			expectNone(t, name+", Unshoot", got, e, api.ErrNone)
			got, e = node.Revert(n, k)
			expectNone(t, name+", Revert", got, e, api.ErrNone)
			s, e := node.Peek(n, k, 1, 0)
			expectText(t, name+", Peek", s, e, "", api.ErrNone)
			s, e = node.Peek(n, k, 1, 2)
			expectText(t, name+", Peek of no block", s, e, "", api.ErrNone)
		}
	}
}

// P18.5: the number of a removed snapshot is not assigned again.
func TestUnshoot(t *testing.T) {
	for name, n := range primaries() {
		if len(n.Shots) == 0 {
			continue
		}
		for i, k := range []int{2, 7} {
			got, e := node.Unshoot(n, k)
			expect(t, name, got, e, with(n, func(n *api.Node) { n.Shots = []api.Shot{n.Shots[1-i]} }))
			again, e := node.Unshoot(got, k)
			expectNone(t, name+", again", again, e, api.ErrNone)
			next, l, e := node.Shoot(got)
			expect(t, name+", and Shoot", next, e, with(got, func(n *api.Node) { n.Shots, n.Shot = []api.Shot{n.Shots[0], shot(10, 10)}, 10 }))
			if l != 10 {
				t.Errorf("%s: the next number is %d", name, l)
			}
		}
	}
}

// P18.5: a snapshot has what it has kept, and else what is there now.
func TestPeek(t *testing.T) {
	for name, n := range primaries() {
		if len(n.Shots) == 0 {
			continue
		}
		for _, c := range []struct {
			k, vol, block int
			want          string
			e             api.Errno
		}{
			{2, 1, 0, "old", api.OK}, {7, 1, 0, "a", api.OK}, {2, 1, 1, "b", api.OK}, {7, 1, 1, "b", api.OK},
			{2, 7, 0, "c", api.OK}, {7, 7, 31, "", api.OK},
			{2, 1, 2, "", api.ErrRange}, {7, 7, 32, "", api.ErrRange}, {2, 7, -1, "", api.ErrRange},
			{2, 2, 0, "", api.ErrNone}, {7, 0, 99, "", api.ErrNone}, {7, math.MinInt, math.MinInt, "", api.ErrNone},
		} {
			s, e := node.Peek(n, c.k, c.vol, c.block)
			expectText(t, name, s, e, c.want, c.e)
		}
	}
}

// P18.5: a revert is a commit of all that the snapshot has kept, which may be nothing, or more than a transaction may have.
func TestRevert(t *testing.T) {
	for name, n := range map[string]api.Node{"Off": primary(), "Off, with an anchor": anchored(primary(), 9, bits(7, 2)), "asking": asking(), "suspended": suspended()} {
		got, e := node.Revert(n, 2)
		want := clone(n)
		want.Seq, want.Vols[0].Blocks[0] = 11, "old"
		want.Shots[1].Kept = writes(write(1, 0, "a"))
		if len(n.Anchor.Line) > 0 {
			want.Changed = append([]api.Bits{bits(1, 1)}, want.Changed...)
		}
		expect(t, name, got, e, want)

		got, e = node.Revert(n, 7)
		expect(t, name+", nothing kept", got, e, with(n, func(n *api.Node) { n.Seq = 11 }))

		n.Shots = []api.Shot{{N: 2, Seq: 3, Kept: row(mostKept, "k")}}
		got, e = node.Revert(n, 2)
		want = clone(n)
		want.Seq = 11
		for i := range mostKept {
			want.Vols[1].Blocks[i] = "k"
		}
		if len(n.Anchor.Line) > 0 {
			want.Changed = []api.Bits{bits(7, 1<<16-1)}
		}
		expect(t, name+", 16 kept", got, e, want)
	}
	n := with(primary(), func(n *api.Node) { n.Seq = limit - 1 })
	got, e := node.Revert(n, 7)
	expect(t, "the last commit", got, e, with(n, func(n *api.Node) { n.Seq = limit }))
}

// P18.5: ErrNone, ErrState, ErrFull and ErrSnap, in this order.
func TestRevertErrors(t *testing.T) {
	crowd := func(n *api.Node) { n.Shots[1].Kept = row(mostKept, "") }
	last := func(n *api.Node) { n.Seq = limit }
	lastOfQueue := func(n *api.Node) { n.Seq, n.Queue.To = limit, limit }
	for name, c := range map[string]struct {
		n api.Node
		e api.Errno
	}{
		"copying":                  {copying(), api.ErrState},
		"active":                   {active(), api.ErrState},
		"idle":                     {idle(), api.ErrState},
		"active at 2^40":           {with(active(), lastOfQueue), api.ErrState},
		"copying, crowded":         {with(copying(), crowd), api.ErrState},
		"at 2^40":                  {with(primary(), last), api.ErrFull},
		"suspended at 2^40":        {with(suspended(), last), api.ErrFull},
		"at 2^40, crowded":         {with(with(primary(), last), crowd), api.ErrFull},
		"crowded":                  {with(primary(), crowd), api.ErrSnap},
		"asking, crowded":          {with(asking(), crowd), api.ErrSnap},
		"suspended, crowded":       {with(suspended(), crowd), api.ErrSnap},
		"the earlier one, crowded": {with(primary(), func(n *api.Node) { n.Shots = []api.Shot{shot(1, 0, row(mostKept, "")...), shot(2, 0, write(1, 1, ""))} }), api.ErrSnap},
	} {
		if !node.Right(c.n) {
			t.Fatalf("%s is not valid", name)
		}
		got, e := node.Revert(c.n, 2)
		expectNone(t, name, got, e, c.e)
		got, e = node.Revert(c.n, 3)
		expectNone(t, name+", no snapshot", got, e, api.ErrNone)
	}
	// Just enough room, and blocks that need none.
	n := with(primary(), func(n *api.Node) { n.Shots[1].Kept = row(mostKept-1, "") })
	if got, e := node.Revert(n, 2); e != api.OK || len(got.Shots[1].Kept) != mostKept || !node.Right(got) {
		t.Errorf("15 and one: %+v, %d", got.Shots, e)
	}
	n = with(primary(), func(n *api.Node) {
		n.Shots = []api.Shot{shot(2, 0, row(mostKept, "x")...), shot(3, 0, row(mostKept, "y")...)}
	})
	if got, e := node.Revert(n, 2); e != api.OK || got.Shots[1].Kept[0].Data != "y" || got.Vols[1].Blocks[15] != "x" || !node.Right(got) {
		t.Errorf("the same 16 blocks: %+v, %d", got, e)
	}
}

// P18.5: to revert to a snapshot and then to the one after it brings back what was there in between.
func TestRevertAndBack(t *testing.T) {
	n, _ := node.First(0, []int{1, 3})
	n, _ = node.Commit(n, change(write(1, 0, "a"), write(1, 1, "b")), wide)
	n, first, _ := node.Shoot(n)
	n, _ = node.Commit(n, change(write(1, 1, "c"), write(1, 2, "d")), wide)
	n, second, _ := node.Shoot(n)
	n, _ = node.Commit(n, change(write(1, 0, "e"), write(1, 2, "f")), wide)
	for i, c := range []struct {
		k    int
		want []string
	}{{first, []string{"a", "b", ""}}, {second, []string{"a", "c", "d"}}, {first, []string{"a", "b", ""}}, {first, []string{"a", "b", ""}}} {
		var e api.Errno
		n, e = node.Revert(n, c.k)
		if e != api.OK || n.Seq != 4+i || !node.Right(n) {
			t.Fatalf("Revert: %+v, %d", n, e)
		}
		for block, want := range c.want {
			s, e := node.Read(n, 1, block)
			expectText(t, "Read", s, e, want, api.OK)
			s, e = node.Peek(n, first, 1, block)
			expectText(t, "Peek of the first", s, e, []string{"a", "b", ""}[block], api.OK)
			s, e = node.Peek(n, second, 1, block)
			expectText(t, "Peek of the second", s, e, []string{"a", "c", "d"}[block], api.OK)
		}
	}
}
