package node_test

import (
	"math"
	"strconv"
	"testing"

	"counterfoil/api"
	"counterfoil/node"
)

// ofMode returns the names of the primaries in these modes.
func ofMode(modes ...int) map[string]bool {
	names := map[string]bool{}
	for name, n := range primaries() {
		for _, m := range modes {
			if n.Mode == m {
				names[name] = true
			}
		}
	}
	return names
}

// P18.3.
func TestAttach(t *testing.T) {
	can := ofMode(api.Off, api.Suspended)
	for name, n := range primaries() {
		got, e := node.Attach(n)
		if can[name] {
			expect(t, name, got, e, with(n, func(n *api.Node) { n.Mode = api.Asking }))
		} else {
			expectNone(t, name, got, e, api.ErrState)
		}
	}
}

// idleMode is what suspending makes of a node.
func idleMode(n *api.Node) {
	n.Mode, n.Queue, n.Copy, n.Got, n.Full = api.Suspended, api.Queue{}, nil, 0, false
}

// P18.3: the anchor stays, so that later only what has changed is copied.
func TestSuspend(t *testing.T) {
	can := ofMode(api.Asking, api.Copying, api.Active)
	for name, n := range primaries() {
		got, e := node.Suspend(n)
		if can[name] {
			expect(t, name, got, e, with(n, idleMode))
		} else {
			expectNone(t, name, got, e, api.ErrState)
		}
	}
}

// P18.3: in every mode, also where there is no mirror.
func TestDetach(t *testing.T) {
	all := primaries()
	all["Off, with an anchor"] = anchored(primary(), 9, bits(1, 1))
	for name, n := range all {
		got, e := node.Detach(n)
		expect(t, name, got, e, with(n, func(n *api.Node) {
			idleMode(n)
			n.Mode, n.Anchor, n.Changed = api.Off, api.Pos{}, nil
		}))
	}
}

// promoted edits a node of the line that history returns.
func promoted(epoch int) func(n *api.Node) {
	return func(n *api.Node) {
		n.Role, n.Mode, n.Known, n.Stale = api.Primary, api.Suspended, epoch, false
		n.Line = append(copied(n.Line), branch(epoch, n.Seq))
		n.From, n.FromN, n.Next = 0, 0, 0
	}
}

// P18.4: what the promoted node knew of decides on its epoch, not its line; all that is not named stays.
func TestPromote(t *testing.T) {
	for name, n := range map[string]api.Node{
		"remote": remote(), "stale": stale(), "shielded": shielded(),
		"shielded, stale":   with(shielded(), func(n *api.Node) { n.Stale = true }),
		"no anchor":         with(remote(), func(n *api.Node) { n.Anchor = api.Pos{} }),
		"at the branch":     with(remote(), func(n *api.Node) { n.Seq, n.Anchor.Seq = 4, 4 }),
		"at 2^40":           with(remote(), func(n *api.Node) { n.Seq = limit }),
		"an older anchor":   with(remote(), func(n *api.Node) { n.Anchor = api.Pos{Line: path(branch(1, 0)), Seq: 2} }),
		"an anchor further": with(remote(), func(n *api.Node) { n.Anchor = api.Pos{Line: append(history(), branch(7, 10)), Seq: 10} }),
		"nothing kept":      with(shielded(), func(n *api.Node) { n.Kept = nil }),
		"no volumes":        with(remote(), func(n *api.Node) { n.Vols = nil }),
	} {
		for site, epochs := range [][]int{{3: 5, 4: 5, 5: 7, 6: 7, 7: 9}, {3: 4, 4: 6, 5: 6, 6: 8, 7: 8}} {
			for known := 3; known <= 7; known++ {
				n := clone(n)
				n.Known = known
				want := with(clone(n), promoted(epochs[known]))
				if n.Shield {
					want.Shield, want.Kept = false, nil
					for _, w := range n.Kept {
						want.Vols[map[int]int{1: 0, 7: 1}[w.Vol]].Blocks[w.Block] = w.Data
					}
				}
				got, e := node.Promote(n, site)
				expect(t, name+", Promote at "+strconv.Itoa(site), got, e, want)
			}
		}
	}
}

// P18.4.
func TestPromoteErrors(t *testing.T) {
	all := rightNodes()
	all["full"] = with(remote(), func(n *api.Node) { n.Known = limit })
	all["not Valid, with a line"] = with(remote(), func(n *api.Node) { n.Valid = false })
	all["not Valid, full"] = with(node.Second(), func(n *api.Node) { n.Known = limit })
	for name, n := range all {
		for _, site := range []int{-1, 2, 3, math.MinInt, math.MaxInt} {
			got, e := node.Promote(n, site)
			expectNone(t, name+", no site", got, e, api.ErrArg)
		}
		for site := range 2 {
			got, e := node.Promote(n, site)
			switch {
			case n.Role == api.Primary:
				expectNone(t, name+", a primary", got, e, api.ErrState)
			case !n.Valid:
				expectNone(t, name+", not Valid", got, e, api.ErrCopy)
			}
		}
	}
}

// P18.4: the last epochs, and the last branch.
func TestPromoteFull(t *testing.T) {
	for _, c := range []struct{ known, site, epoch int }{
		{limit - 3, 0, limit - 1}, {limit - 3, 1, limit - 2},
		{limit - 2, 0, limit - 1}, {limit - 2, 1, limit},
		{limit - 1, 0, 0}, {limit - 1, 1, 0}, {limit, 0, 0}, {limit, 1, 0},
	} {
		n := with(remote(), func(n *api.Node) { n.Known = c.known })
		got, e := node.Promote(n, c.site)
		if c.epoch == 0 {
			expectNone(t, "Promote beyond the last epoch", got, e, api.ErrFull)
		} else {
			expect(t, "Promote near the last epoch", got, e, with(n, promoted(c.epoch)))
		}
	}
	long := func(branches int) api.Node {
		return with(remote(), func(n *api.Node) {
			n.Line, n.Seq, n.Known, n.Anchor = longLine(branches), 99, 100, api.Pos{}
		})
	}
	got, e := node.Promote(long(mostEpochs-1), 0)
	expect(t, "the 64th branch", got, e, with(long(mostEpochs-1), promoted(101)))
	got, e = node.Promote(long(mostEpochs), 0)
	expectNone(t, "the 65th branch", got, e, api.ErrFull)
	primary := with(got, func(n *api.Node) { *n = plain(); n.Known, n.Line, n.Seq = mostEpochs, longLine(mostEpochs), 99 })
	got, e = node.Promote(primary, 0)
	expectNone(t, "a primary with 64 branches", got, e, api.ErrState)
	got, e = node.Promote(with(long(mostEpochs), func(n *api.Node) { n.Valid = false }), 1)
	expectNone(t, "64 branches, not Valid", got, e, api.ErrCopy)
}

// P18.4.
func TestDemote(t *testing.T) {
	for name, n := range map[string]api.Node{
		"idle":            idle(),
		"idle, no anchor": with(idle(), func(n *api.Node) { n.Anchor = api.Pos{} }),
		"marks left":      with(idle(), func(n *api.Node) { *n = anchored(*n, 8, bits(1, 3)) }),
		"at 2^40":         with(idle(), queueAt(limit)),
		"at the branch":   with(idle(), func(n *api.Node) { queueAt(4)(n); n.Anchor.Seq = 4; n.Shots = nil }),
	} {
		got, e := node.Demote(n)
		expect(t, name, got, e, with(n, func(n *api.Node) {
			n.Role, n.Mode, n.Shots, n.Queue = api.Remote, api.Off, nil, api.Queue{}
			n.Anchor, n.Changed = api.Pos{Line: history(), Seq: n.Seq}, nil
			n.From, n.FromN, n.Next = 0, 0, 0
		}))
	}
	all := primaries()
	delete(all, "idle")
	all["one open commit"] = with(idle(), func(n *api.Node) { n.Queue.From = 9 })
	all["one closed commit"] = with(idle(), func(n *api.Node) { n.Queue.Sets = []api.Set{set(9, 10)} })
	all["copied, nothing waits"] = with(copying(), func(n *api.Node) { n.Queue = api.Queue{From: 10, To: 10} })
	all["Copying nothing"] = with(idle(), func(n *api.Node) { n.Mode = api.Copying })
	for name, n := range all {
		if !node.Right(n) {
			t.Fatalf("%s is not valid", name)
		}
		got, e := node.Demote(n)
		expectNone(t, name, got, e, api.ErrState)
	}
}

// No two lists of a node are one: to change the line in place would change the anchor with it.
func TestDemoteSharesNothing(t *testing.T) {
	got, _ := node.Demote(idle())
	if &got.Line[0] == &got.Anchor.Line[0] {
		t.Errorf("the line is that of the anchor")
	}
}

// P18.4.
func TestFence(t *testing.T) {
	all := rightNodes()
	all["near the last epoch"] = with(remote(), func(n *api.Node) { n.Known = limit - 1 })
	all["full"] = with(remote(), func(n *api.Node) { n.Known = limit })
	all["a primary near the last epoch"] = with(plain(), func(n *api.Node) { n.Known, n.Line[1].Epoch = limit-1, limit-1 })
	for name, n := range all {
		for _, epoch := range []int{0, 1, n.Known - 1, n.Known, n.Known + 1, n.Known + 2, limit - 1, limit} {
			if epoch < 0 || epoch > limit {
				continue
			}
			want := clone(n)
			if epoch > n.Known {
				want.Known = epoch
				if n.Role == api.Primary {
					idleMode(&want)
					want.Role, want.Stale, want.Mode, want.Shots = api.Remote, true, api.Off, nil
				}
			}
			got, e := node.Fence(n, epoch)
			expect(t, name+", Fence with "+strconv.Itoa(epoch), got, e, want)
		}
		for _, epoch := range []int{-1, math.MinInt, limit + 1, math.MaxInt} {
			got, e := node.Fence(n, epoch)
			expectNone(t, name+", no epoch", got, e, api.ErrArg)
		}
	}
}

// P18.6 and P4: a fenced node accepts nothing, until it is promoted.
func TestFencedAcceptsNothing(t *testing.T) {
	for name, n := range primaries() {
		fenced, e := node.Fence(n, n.Known+1)
		if e != api.OK {
			t.Fatalf("%s: Fence = %d", name, e)
		}
		for call, f := range calls() {
			got, e := f(fenced)
			expectNone(t, name+", "+call, got, e, api.ErrStale)
		}
		again, e := node.Promote(fenced, 0)
		if e != api.OK || again.Known != 5 || again.Stale {
			t.Errorf("%s: Promote: %+v, %d", name, again, e)
		}
		if s, e := node.Read(again, 1, 0); s != "a" || e != api.OK {
			t.Errorf("%s: Read: %q, %d", name, s, e)
		}
	}
}
