package node_test

import (
	"math"
	"strconv"
	"testing"

	"counterfoil/api"
	"counterfoil/node"
	"counterfoil/vols"
)

type nodeCase struct {
	name string
	n    api.Node
	edit func(n *api.Node)
}

func (c nodeCase) node() api.Node { return with(clone(c.n), c.edit) }

// numberFields are those that may be from 0 to 2^40; Known is under further rules.
func numberFields() map[string]func(n *api.Node) *int {
	return map[string]func(n *api.Node) *int{
		"Sync":  func(n *api.Node) *int { return &n.Sync },
		"From":  func(n *api.Node) *int { return &n.From },
		"FromN": func(n *api.Node) *int { return &n.FromN },
		"Next":  func(n *api.Node) *int { return &n.Next },
		"Shot":  func(n *api.Node) *int { return &n.Shot },
	}
}

func queueAt(seq int) func(n *api.Node) {
	return func(n *api.Node) { n.Seq, n.Queue = seq, api.Queue{From: seq, To: seq} }
}

// full has all blocks that a group can have.
func full() []api.Vol {
	vs, _ := vols.Blank([]int{1, 32, 2, 32, 3, 32, 255, 32})
	return vs
}

func all(vs []api.Vol) []api.Write {
	var ws []api.Write
	for _, v := range vs {
		for i := range v.Blocks {
			ws = append(ws, write(v.ID, i, "12345678"))
		}
	}
	return ws
}

// rightEdits still leave a valid node.
func rightEdits() []nodeCase {
	fill := func(n *api.Node) { n.Vols, n.Copy, n.Got = full(), all(full()), 16 }
	return []nodeCase{
		// 1.
		{"a remote that knows much", remote(), func(n *api.Node) { n.Known = limit }},
		{"a remote that knows its own epoch", remote(), func(n *api.Node) { n.Known = 3 }},
		{"one that has nothing and knows much", node.Second(), func(n *api.Node) { n.Known = limit }},
		{"the last epoch", plain(), func(n *api.Node) { n.Known, n.Line[1].Epoch = limit, limit }},
		// 2.
		{"Seq at the last branch", plain(), func(n *api.Node) { n.Seq = 4 }},
		{"the last Seq", plain(), func(n *api.Node) { n.Seq = limit }},
		{"a remote at the last Seq", remote(), func(n *api.Node) { n.Seq = limit }},
		{"a remote that is not Valid, with a line", remote(), func(n *api.Node) { n.Valid = false }},
		{"a stale one that has nothing", node.Second(), func(n *api.Node) { n.Stale = true }},
		{"an empty line", node.Second(), func(n *api.Node) { n.Line = []api.Branch{} }},
		{"64 branches", plain(), func(n *api.Node) { n.Line, n.Known, n.Seq = longLine(mostEpochs), mostEpochs, 99 }},
		// 3.
		{"no volumes", plain(), func(n *api.Node) { n.Vols = nil }},
		{"all volumes", plain(), func(n *api.Node) { n.Vols = full() }},
		{"a Shield, nothing kept", shielded(), func(n *api.Node) { n.Kept = nil }},
		{"an empty list kept", remote(), func(n *api.Node) { n.Kept = []api.Write{} }},
		{"a Shield, all kept", shielded(), func(n *api.Node) { n.Vols, n.Kept, n.Changed = full(), all(full()), nil }},
		// 4.
		{"nothing changed", suspended(), func(n *api.Node) { n.Changed = nil }},
		{"all changed", suspended(), func(n *api.Node) { n.Changed = []api.Bits{bits(1, 3), bits(7, 1<<32-1)} }},
		{"the anchor here", suspended(), func(n *api.Node) { n.Anchor.Seq = 10 }},
		{"the anchor at the last branch", suspended(), func(n *api.Node) { n.Anchor.Seq = 4 }},
		{"the anchor on the line before", suspended(), func(n *api.Node) { n.Anchor = api.Pos{Line: path(branch(1, 0)), Seq: 4} }},
		{"the anchor at the beginning", suspended(), func(n *api.Node) { n.Anchor = api.Pos{Line: path(branch(1, 0))} }},
		{"the anchor where another line begins", suspended(), func(n *api.Node) { n.Anchor = api.Pos{Line: path(branch(1, 0), branch(2, 3)), Seq: 3} }},
		{"the anchor on a line that goes on here", suspended(), func(n *api.Node) { n.Anchor = api.Pos{Line: append(history(), branch(5, 10)), Seq: 10} }},
		{"no anchor", suspended(), func(n *api.Node) { n.Anchor, n.Changed = api.Pos{}, nil }},
		{"no anchor, empty lists", suspended(), func(n *api.Node) { n.Anchor, n.Changed = api.Pos{Line: []api.Branch{}}, []api.Bits{} }},
		{"an anchor, Off", primary(), func(n *api.Node) { *n = anchored(*n, 9, bits(1, 1)) }},
		{"an anchor of a remote that is not Valid", remote(), func(n *api.Node) { n.Valid = false }},
		// 5.
		{"no snapshots", primary(), func(n *api.Node) { n.Shots = []api.Shot{} }},
		{"the edges of a snapshot", primary(), func(n *api.Node) { n.Shots = []api.Shot{shot(1, 0), shot(9, 10)} }},
		{"snapshots at the same Seq", primary(), func(n *api.Node) { n.Shots = []api.Shot{shot(1, 3), shot(2, 3)} }},
		{"the last snapshot", primary(), func(n *api.Node) { n.Shot, n.Shots = limit, []api.Shot{shot(limit-1, 1), shot(limit, 2)} }},
		{"16 kept", primary(), func(n *api.Node) { n.Shots[1].Kept = row(mostKept, "12345678") }},
		{"a Shot of a remote", remote(), func(n *api.Node) { n.Shot = 5 }},
		// 6.
		{"an empty queue", active(), queueAt(10)},
		{"an empty queue, copying", copying(), queueAt(10)},
		{"the last commit waits", active(), func(n *api.Node) { n.Seq, n.Queue.To = limit, limit }},
		{"the tail at the last branch", active(), func(n *api.Node) { n.Queue.Sets[0].From = 4 }},
		{"the open set from the last branch", active(), func(n *api.Node) { n.Queue.Sets, n.Queue.From = nil, 4 }},
		{"empty lists in a queue", suspended(), func(n *api.Node) { n.Queue = api.Queue{Sets: []api.Set{}, Open: []api.Write{}} }},
		{"an empty Copy, asking", asking(), func(n *api.Node) { n.Copy = []api.Write{} }},
		{"all blocks copied", copying(), func(n *api.Node) {
			fill(n)
			n.Shots, n.Queue, n.Anchor, n.Changed = nil, api.Queue{From: 10, To: 10}, api.Pos{}, nil
		}},
		{"Got -1", copying(), func(n *api.Node) { n.Got = -1 }},
		{"Got 0", copying(), func(n *api.Node) { n.Got = 0 }},
		{"Got 3 of 17", copying(), func(n *api.Node) { n.Got = 3 }},
		{"Got 2 of 16", copying(), func(n *api.Node) { n.Copy, n.Got = row(16, ""), 2 }},
		{"Got 2 of 9", copying(), func(n *api.Node) { n.Copy, n.Got = row(9, ""), 2 }},
		{"Got 1 of 8", copying(), func(n *api.Node) { n.Copy, n.Got = row(8, ""), 1 }},
		{"Got 1 of 1", copying(), func(n *api.Node) { n.Copy, n.Got = row(1, ""), 1 }},
		{"Got 0 of 0", copying(), func(n *api.Node) { n.Copy, n.Got = nil, 0 }},
		{"Got -1 of 0", copying(), func(n *api.Node) { n.Copy, n.Got = nil, -1 }},
		{"not Full", copying(), func(n *api.Node) { n.Full = false }},
		{"no anchor, copying", copying(), func(n *api.Node) { n.Anchor, n.Changed = api.Pos{}, nil }},
		{"no anchor, active", active(), func(n *api.Node) { n.Anchor, n.Changed = api.Pos{}, nil }},
	}
}

func longLine(n int) []api.Branch {
	var l []api.Branch
	for i := range n {
		l = append(l, branch(i+1, i))
	}
	return l
}

func wrongPlaces() []nodeCase {
	return []nodeCase{
		{"Known 2^40 + 1", remote(), func(n *api.Node) { n.Known = limit + 1 }},
		{"Known the greatest int", remote(), func(n *api.Node) { n.Known = math.MaxInt }},
		{"Known -1, nothing there", node.Second(), func(n *api.Node) { n.Known = -1 }},
		{"Known the least int, nothing there", node.Second(), func(n *api.Node) { n.Known = math.MinInt }},
		{"Known 2^40 + 1, nothing there", node.Second(), func(n *api.Node) { n.Known = limit + 1 }},
		{"a remote that knows too little", remote(), func(n *api.Node) { n.Known = 2 }},
		{"a primary that knows too little", primary(), func(n *api.Node) { n.Known = 2 }},
		{"a primary that knows more", primary(), func(n *api.Node) { n.Known = 4 }},
		{"a primary that is not Valid", primary(), func(n *api.Node) { n.Valid = false }},
		{"a primary that is Stale", primary(), func(n *api.Node) { n.Stale = true }},
		{"a primary without a line", plain(), func(n *api.Node) { n.Line = nil }},
		{"a primary without anything", plain(), func(n *api.Node) { n.Line, n.Known, n.Seq, n.Vols = nil, 0, 0, nil }},
		{"a primary without anything, not Valid", plain(), func(n *api.Node) { n.Line, n.Known, n.Seq, n.Vols, n.Valid = nil, 0, 0, nil, false }},
		{"a Valid remote without a line", remote(), func(n *api.Node) { *n = anchored(*n, 0); n.Line, n.Seq, n.Anchor = nil, 0, api.Pos{} }},
		{"Valid, nothing there", node.Second(), func(n *api.Node) { n.Valid = true }},
		{"Seq 1, nothing there", node.Second(), func(n *api.Node) { n.Seq = 1 }},
		{"Seq -1, nothing there", node.Second(), func(n *api.Node) { n.Seq = -1 }},
		{"Seq ahead of the last branch", plain(), func(n *api.Node) { n.Seq = 3 }},
		{"Seq ahead of the last branch, remote", remote(), func(n *api.Node) { n.Seq, n.Anchor = 3, api.Pos{} }},
		{"Seq ahead of the last branch, not Valid", remote(), func(n *api.Node) { n.Seq, n.Anchor, n.Valid = 3, api.Pos{}, false }},
		{"Seq 2^40 + 1", plain(), func(n *api.Node) { n.Seq = limit + 1 }},
		{"Seq the greatest int", plain(), func(n *api.Node) { n.Seq = math.MaxInt }},
		{"Seq the least int", plain(), func(n *api.Node) { n.Seq = math.MinInt }},
		{"a line that does not begin at 0", plain(), func(n *api.Node) { n.Line[0].At = 1 }},
		{"a line of falling epochs", plain(), func(n *api.Node) { n.Line[0].Epoch = 3 }},
		{"a line of falling epochs, not Valid", remote(), func(n *api.Node) { n.Line[0].Epoch, n.Valid, n.Anchor = 3, false, api.Pos{} }},
		{"65 branches", plain(), func(n *api.Node) { n.Line, n.Known, n.Seq = longLine(mostEpochs+1), mostEpochs+1, 99 }},
	}
}

func wrongVolumes() []nodeCase {
	return []nodeCase{
		{"volumes that fall", plain(), func(n *api.Node) { n.Vols[0].ID = 8 }},
		{"a volume without blocks", plain(), func(n *api.Node) { n.Vols[0].Blocks = nil }},
		{"33 blocks", plain(), func(n *api.Node) { n.Vols[0].Blocks = make([]string, 33) }},
		{"a block too long", plain(), func(n *api.Node) { n.Vols[0].Blocks[0] = "123456789" }},
		{"five volumes", plain(), func(n *api.Node) { n.Vols = append(full()[:3], api.Vol{ID: 4, Blocks: []string{""}}, full()[3]) }},
		{"wrong volumes where nothing is there", node.Second(), func(n *api.Node) { n.Vols = []api.Vol{{ID: 0, Blocks: []string{""}}} }},
		{"kept without a Shield", shielded(), func(n *api.Node) { n.Shield = false }},
		{"kept by a primary", plain(), func(n *api.Node) { n.Kept = writes(write(1, 0, "")) }},
		{"a Shield of a primary", plain(), func(n *api.Node) { n.Shield = true }},
		{"a Shield of one that is not Valid", shielded(), func(n *api.Node) { n.Valid = false }},
		{"a Shield where nothing is there", node.Second(), func(n *api.Node) { n.Shield = true }},
		{"a kept block twice", shielded(), func(n *api.Node) { n.Kept[1] = n.Kept[0] }},
		{"kept blocks that fall", shielded(), func(n *api.Node) { n.Kept[0], n.Kept[1] = n.Kept[1], n.Kept[0] }},
		{"a kept block of no volume", shielded(), func(n *api.Node) { n.Kept[0].Vol = 2 }},
		{"a kept block that is not there", shielded(), func(n *api.Node) { n.Kept[1].Block = 32 }},
		{"a kept block too long", shielded(), func(n *api.Node) { n.Kept[1].Data = "123456789" }},
	}
}

func wrongAnchors() []nodeCase {
	return []nodeCase{
		{"changed without an anchor", suspended(), func(n *api.Node) { n.Anchor = api.Pos{} }},
		{"changed without an anchor, remote", stale(), func(n *api.Node) { n.Anchor = api.Pos{} }},
		{"an anchor without a line", suspended(), func(n *api.Node) { n.Anchor.Line, n.Changed = nil, nil }},
		{"an anchor of Seq 1 without a line", suspended(), func(n *api.Node) { n.Anchor, n.Changed = api.Pos{Seq: 1}, nil }},
		{"an anchor of Seq -1 without a line", suspended(), func(n *api.Node) { n.Anchor, n.Changed = api.Pos{Seq: -1}, nil }},
		{"an anchor ahead of its branch", suspended(), func(n *api.Node) { n.Anchor.Seq = 3 }},
		{"an anchor of a wrong line", suspended(), func(n *api.Node) { n.Anchor.Line[0].At = 1 }},
		{"an anchor to come", suspended(), func(n *api.Node) { n.Anchor.Seq = 11 }},
		{"an anchor to come, remote", remote(), func(n *api.Node) { n.Anchor.Seq = 11 }},
		{"an anchor beyond the line before", suspended(), func(n *api.Node) { n.Anchor = api.Pos{Line: path(branch(1, 0)), Seq: 5} }},
		{"an anchor of another line", suspended(), func(n *api.Node) { n.Anchor = api.Pos{Line: path(branch(1, 0), branch(2, 3)), Seq: 4} }},
		{"an anchor of another history", suspended(), func(n *api.Node) { n.Anchor = api.Pos{Line: path(branch(2, 0))} }},
		{"an anchor where nothing is there", node.Second(), func(n *api.Node) { n.Known, n.Anchor = 1, api.Pos{Line: path(branch(1, 0))} }},
		{"a changed volume 0", suspended(), func(n *api.Node) { n.Changed[0].Vol = 0 }},
		{"a changed volume that is not there", suspended(), func(n *api.Node) { n.Changed[0].Vol = 2 }},
		{"a changed block that is not there", suspended(), func(n *api.Node) { n.Changed = []api.Bits{bits(1, 4)} }},
		{"a changed block beyond all", suspended(), func(n *api.Node) { n.Changed = []api.Bits{bits(7, 1<<32)} }},
		{"a mask of nothing", suspended(), func(n *api.Node) { n.Changed = []api.Bits{bits(7, 0)} }},
		{"changed volumes that fall", suspended(), func(n *api.Node) { n.Changed = []api.Bits{bits(7, 1), bits(1, 1)} }},
		{"a wrong mask of a remote", stale(), func(n *api.Node) { n.Changed = []api.Bits{bits(1, 7)} }},
	}
}

func wrongShots() []nodeCase {
	cases := []nodeCase{
		{"three snapshots", primary(), func(n *api.Node) { n.Shots = append(n.Shots, shot(9, 9)) }},
		{"snapshot 0", primary(), func(n *api.Node) { n.Shots[0].N = 0 }},
		{"snapshot -1", primary(), func(n *api.Node) { n.Shots[0].N = -1 }},
		{"the first snapshot beyond Shot", primary(), func(n *api.Node) { n.Shots = []api.Shot{shot(10, 1)} }},
		{"a snapshot beyond Shot", primary(), func(n *api.Node) { n.Shots[1].N = 10 }},
		{"Shot below the snapshots", primary(), func(n *api.Node) { n.Shot = 6 }},
		{"Shot 0 below a snapshot", primary(), func(n *api.Node) { n.Shot = 0 }},
		{"a snapshot twice", primary(), func(n *api.Node) { n.Shots[1].N = 2 }},
		{"snapshots that fall", primary(), func(n *api.Node) { n.Shots[1].N = 1 }},
		{"a snapshot of Seq -1", primary(), func(n *api.Node) { n.Shots[0].Seq = -1 }},
		{"a snapshot to come", primary(), func(n *api.Node) { n.Shots[0].Seq = 11 }},
		{"a second snapshot to come", primary(), func(n *api.Node) { n.Shots[1].Seq = 11 }},
		{"17 kept", primary(), func(n *api.Node) { n.Shots[0].Kept = row(mostKept+1, "") }},
		{"17 kept, second", primary(), func(n *api.Node) { n.Shots[1].Kept = row(mostKept+1, "") }},
		{"a remote with a snapshot", remote(), func(n *api.Node) { n.Shots = []api.Shot{shot(1, 1)} }},
	}
	for i := range 2 {
		for name, kept := range map[string][]api.Write{
			"a block twice":       writes(write(1, 0, ""), write(1, 0, "")),
			"blocks that fall":    writes(write(1, 1, ""), write(1, 0, "")),
			"a block of nothing":  writes(write(2, 0, "")),
			"a block not there":   writes(write(1, 2, "")),
			"a block far too low": writes(write(1, -1, "")),
			"a block too long":    writes(write(1, 1, "123456789")),
		} {
			cases = append(cases, nodeCase{"snapshot " + strconv.Itoa(i) + " with " + name, primary(), func(n *api.Node) { n.Shots[i].Kept = kept }})
		}
	}
	return cases
}

func wrongModes() []nodeCase {
	cases := []nodeCase{
		{"Mode -1", plain(), func(n *api.Node) { n.Mode = -1 }},
		{"Mode 5", plain(), func(n *api.Node) { n.Mode = 5 }},
		{"Mode 5 of a mirror", active(), func(n *api.Node) { n.Mode = 5 }},
		{"the least Mode", plain(), func(n *api.Node) { n.Mode = math.MinInt }},
		{"the greatest Mode", plain(), func(n *api.Node) { n.Mode = math.MaxInt }},
		{"Mode 5 of a remote", remote(), func(n *api.Node) { n.Mode = 5 }},
		{"an unfolded Copy", copying(), func(n *api.Node) { n.Copy[1] = n.Copy[0] }},
		{"a Copy that falls", copying(), func(n *api.Node) { n.Copy[15], n.Copy[16] = n.Copy[16], n.Copy[15] }},
		{"a Copy of no volume", copying(), func(n *api.Node) { n.Copy[0].Vol = 6 }},
		{"a Copy of no block", copying(), func(n *api.Node) { n.Copy[16].Block = 32 }},
		{"a Copy beyond volume 1", copying(), func(n *api.Node) { n.Copy[0] = write(1, 2, "") }},
		{"a Copy too long", copying(), func(n *api.Node) { n.Copy[16].Data = "123456789" }},
		{"Got -2", copying(), func(n *api.Node) { n.Got = -2 }},
		{"Got the least int", copying(), func(n *api.Node) { n.Got = math.MinInt }},
		{"Got the greatest int", copying(), func(n *api.Node) { n.Got = math.MaxInt }},
		{"Got 4 of 17", copying(), func(n *api.Node) { n.Got = 4 }},
		{"Got 3 of 16", copying(), func(n *api.Node) { n.Copy, n.Got = row(16, ""), 3 }},
		{"Got 3 of 9", copying(), func(n *api.Node) { n.Copy, n.Got = row(9, ""), 3 }},
		{"Got 2 of 8", copying(), func(n *api.Node) { n.Copy, n.Got = row(8, ""), 2 }},
		{"Got 2 of 1", copying(), func(n *api.Node) { n.Copy, n.Got = row(1, ""), 2 }},
		{"Got 1 of 0", copying(), func(n *api.Node) { n.Copy, n.Got = nil, 1 }},
		{"no queue, copying", copying(), func(n *api.Node) { n.Queue = api.Queue{} }},
		{"no queue, active", active(), func(n *api.Node) { n.Queue = api.Queue{} }},
	}
	for mode := api.Asking; mode <= api.Suspended; mode++ {
		for name, n := range map[string]api.Node{"remote": remote(), "stale": stale(), "shielded": shielded(), "unfilled": unfilled(), "second": node.Second()} {
			cases = append(cases, nodeCase{"mode " + strconv.Itoa(mode) + " of " + name, n, func(n *api.Node) {
				n.Mode = mode
				if mode == api.Copying || mode == api.Active {
					n.Queue = api.Queue{From: n.Seq, To: n.Seq}
				}
			}})
		}
	}
	for name, n := range rightNodes() {
		if n.Mode != api.Copying {
			cases = append(cases,
				nodeCase{name + " with a Copy", n, func(n *api.Node) { n.Vols, n.Copy = sample(), row(1, "") }},
				nodeCase{name + " with Got 1", n, func(n *api.Node) { n.Got = 1 }},
				nodeCase{name + " with Got -1", n, func(n *api.Node) { n.Got = -1 }},
				nodeCase{name + " that is Full", n, func(n *api.Node) { n.Full = true }})
		}
		if n.Mode != api.Copying && n.Mode != api.Active {
			cases = append(cases,
				nodeCase{name + " with an empty queue", n, func(n *api.Node) { n.Queue = api.Queue{From: 10, To: 10} }},
				nodeCase{name + " with a queue from 0", n, func(n *api.Node) { n.Queue = api.Queue{To: 10} }},
				nodeCase{name + " with a queue to 0", n, func(n *api.Node) { n.Queue = api.Queue{From: 10} }},
				nodeCase{name + " with sets", n, func(n *api.Node) { n.Queue = api.Queue{Sets: make([]api.Set, 1)} }},
				nodeCase{name + " with an open set", n, func(n *api.Node) { n.Queue = api.Queue{Open: make([]api.Write, 1)} }},
				nodeCase{name + " with all of a queue", n, func(n *api.Node) { n.Queue = waiting() }})
		}
	}
	return cases
}

// wrongQueues are under the same rules in both modes that have one.
func wrongQueues() []nodeCase {
	var cases []nodeCase
	for mode, n := range map[string]api.Node{"copying": copying(), "active": active()} {
		for name, edit := range map[string]func(n *api.Node){
			"a queue that ends too late":     func(n *api.Node) { n.Queue.To = 11 },
			"a queue that ends too early":    func(n *api.Node) { n.Queue.To = 9 },
			"a queue that does not end":      func(n *api.Node) { n.Queue.To = math.MaxInt },
			"a queue that falls":             func(n *api.Node) { n.Queue.From, n.Queue.Sets[1].To = 11, 11 },
			"a gap":                          func(n *api.Node) { n.Queue.Sets[1].From = 6 },
			"an unfolded open set":           func(n *api.Node) { n.Queue.Open[1] = n.Queue.Open[0] },
			"an unfolded closed set":         func(n *api.Node) { n.Queue.Sets[0].Writes = writes(write(1, 1, ""), write(1, 0, "")) },
			"a tail ahead of the branch":     func(n *api.Node) { n.Queue.Sets[0].From = 3 },
			"an open tail ahead of it":       func(n *api.Node) { n.Queue.Sets, n.Queue.From = nil, 3 },
			"a tail at 0":                    func(n *api.Node) { n.Queue.Sets[0].From = 0 },
			"a closed set of no volume":      func(n *api.Node) { n.Queue.Sets[0].Writes[0].Vol = 2 },
			"a closed set of no block":       func(n *api.Node) { n.Queue.Sets[0].Writes[0].Block = 2 },
			"a closed set too long":          func(n *api.Node) { n.Queue.Sets[0].Writes[0].Data = "123456789" },
			"the last closed set of nothing": func(n *api.Node) { n.Queue.Sets[1].Writes = writes(write(7, 32, "")) },
			"an open set of no volume":       func(n *api.Node) { n.Queue.Open[1].Vol = 8 },
			"an open set of no block":        func(n *api.Node) { n.Queue.Open[1].Block = -1 },
			"an open set too long":           func(n *api.Node) { n.Queue.Open[1].Data = "123456789" },
		} {
			cases = append(cases, nodeCase{mode + ", " + name, n, edit})
		}
	}
	return cases
}

func wrongRolesAndNumbers() []nodeCase {
	var cases []nodeCase
	for name, n := range rightNodes() {
		for _, role := range []int{0, -1, 3, math.MinInt, math.MaxInt} {
			cases = append(cases, nodeCase{name + " of role " + strconv.Itoa(role), n, func(n *api.Node) { n.Role = role }})
		}
		for field, get := range numberFields() {
			for _, x := range []int{-1, math.MinInt, limit + 1, math.MaxInt} {
				cases = append(cases, nodeCase{name + " with " + field + " " + strconv.Itoa(x), n, func(n *api.Node) { *get(n) = x }})
			}
		}
	}
	return cases
}

// wrongNodes miss a condition each.
func wrongNodes() []nodeCase {
	cases := []nodeCase{{"the zero node", api.Node{}, func(n *api.Node) {}}}
	for _, more := range [][]nodeCase{wrongRolesAndNumbers(), wrongPlaces(), wrongVolumes(), wrongAnchors(), wrongShots(), wrongModes(), wrongQueues()} {
		cases = append(cases, more...)
	}
	return cases
}

// P18.1.
func TestRight(t *testing.T) {
	for name, n := range rightNodes() {
		if !node.Right(n) {
			t.Errorf("%s: Right is false", name)
		}
		for field, get := range numberFields() {
			for _, x := range []int{0, limit} {
				if m := with(clone(n), func(n *api.Node) { n.Shots = nil; *get(n) = x }); !node.Right(m) {
					t.Errorf("%s with %s %d: Right is false", name, field, x)
				}
			}
		}
	}
	for _, c := range rightEdits() {
		if !node.Right(c.node()) {
			t.Errorf("%s: Right is false", c.name)
		}
	}
	for _, c := range wrongNodes() {
		if node.Right(c.node()) {
			t.Errorf("%s: Right is true", c.name)
		}
	}
}

// P18.1: a node that is not valid comes ahead of every other error.
func TestWrongNodes(t *testing.T) {
	for _, c := range wrongNodes() {
		n := c.node()
		for call, f := range calls() {
			got, e := f(n)
			expectNone(t, c.name+", "+call, got, e, api.ErrArg)
		}
		for _, site := range []int{0, 1, 2} {
			got, e := node.Promote(n, site)
			expectNone(t, c.name+", Promote", got, e, api.ErrArg)
		}
		for _, epoch := range []int{0, n.Known, 99, limit, -1} {
			got, e := node.Fence(n, epoch)
			expectNone(t, c.name+", Fence", got, e, api.ErrArg)
		}
		if vs, p, ok := node.Safe(n); ok || len(vs) > 0 || len(p.Line) > 0 || p.Seq != 0 {
			t.Errorf("%s: Safe = %v, %v, %v", c.name, vs, p, ok)
		}
	}
}

// P1: long lists are no trouble.
func TestLongLists(t *testing.T) {
	n := active()
	n.Shots, n.Anchor, n.Changed = nil, api.Pos{}, nil
	const many = 20000
	n.Queue = api.Queue{}
	for i := range many {
		n.Queue.Sets = append(n.Queue.Sets, set(4+i, 5+i, write(1, 0, strconv.Itoa(i))))
	}
	n.Seq, n.Queue.From, n.Queue.To = 4+many, 4+many, 4+many
	got, e := node.Commit(n, change(write(1, 1, "x")), wide)
	if e != api.OK || got.Seq != 5+many || len(got.Queue.Sets) != many {
		t.Errorf("Commit: %d, %d sets, %d", got.Seq, len(got.Queue.Sets), e)
	}
	n.Queue.Sets[many-1].Writes[0].Vol = 2
	if node.Right(n) {
		t.Errorf("the last set is not seen")
	}
}
