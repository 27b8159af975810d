package node

import (
	"slices"

	"counterfoil/api"
	"counterfoil/dirty"
	"counterfoil/line"
	"counterfoil/msg"
	"counterfoil/queue"
	"counterfoil/snap"
	"counterfoil/vols"
)

// Right reports whether n is valid. The later rules build on the earlier ones: a primary that has come so far has a line, and a remote no mode.
func Right(n api.Node) bool {
	return rightNumbers(n) &&
		rightPlace(n) &&
		rightVolumes(n) &&
		rightAnchor(n) &&
		rightShots(n) &&
		rightMode(n)
}

func rightNumbers(n api.Node) bool {
	return (n.Role == api.Primary || n.Role == api.Remote) &&
		n.Mode >= api.Off && n.Mode <= api.Suspended &&
		!slices.ContainsFunc([]int{n.Known, n.Sync, n.Shot, n.From, n.FromN, n.Next}, isNoNumber)
}

func isNoNumber(x int) bool { return x < 0 || x > api.MaxNum }

func rightPlace(n api.Node) bool {
	last := line.Last(n.Line)
	if n.Role == api.Primary && (!n.Valid || n.Stale || last != n.Known) {
		return false
	}
	if len(n.Line) == 0 {
		return n.Role == api.Remote && !n.Valid && n.Seq == 0
	}
	return line.Placed(place(n)) && last <= n.Known
}

func rightVolumes(n api.Node) bool {
	if n.Shield && (n.Role == api.Primary || !n.Valid) {
		return false
	}
	return snap.Right(n.Kept, n.Vols) && (n.Shield || len(n.Kept) == 0)
}

func rightAnchor(n api.Node) bool {
	if !hasAnchor(n) {
		return n.Anchor.Seq == 0 && len(n.Changed) == 0
	}
	return line.Ahead(n.Anchor, place(n)) && dirty.Within(n.Changed, n.Vols)
}

func rightShots(n api.Node) bool {
	if len(n.Shots) > api.MaxSnaps || n.Role == api.Remote && len(n.Shots) > 0 {
		return false
	}
	last := 0
	for _, s := range n.Shots {
		if s.N <= last || s.N > n.Shot || s.Seq < 0 || s.Seq > n.Seq || len(s.Kept) > api.Room || !snap.Right(s.Kept, n.Vols) {
			return false
		}
		last = s.N
	}
	return true
}

func rightMode(n api.Node) bool {
	if n.Role == api.Remote && n.Mode != api.Off || n.Mode != api.Copying && hasCopy(n) {
		return false
	}
	switch n.Mode {
	case api.Copying:
		if !rightCopy(n) {
			return false
		}
		// Commits go on while the copy is under way: its queue is under the same rules as that of an active mirror.
		fallthrough
	case api.Active:
		return rightQueue(n)
	}
	return !hasQueue(n)
}

func hasCopy(n api.Node) bool { return len(n.Copy) > 0 || n.Got != 0 || n.Full }

func hasQueue(n api.Node) bool {
	q := n.Queue
	return len(q.Sets) > 0 || len(q.Open) > 0 || q.From != 0 || q.To != 0
}

func rightCopy(n api.Node) bool {
	_, e := msg.PutWrites(n.Copy)
	return e == api.OK && vols.Check(n.Vols, n.Copy) == api.OK && n.Got >= -1 && n.Got <= parts(n)
}

// parts returns the number of parts of Copy: the last one may be a smaller one.
func parts(n api.Node) int { return (len(n.Copy) + api.Part - 1) / api.Part }

// rightQueue expects a line with branches.
func rightQueue(n api.Node) bool {
	isWrong := func(s api.Set) bool { return vols.Check(n.Vols, s.Writes) != api.OK }
	return queue.Right(n.Queue) && n.Queue.To == n.Seq &&
		queue.Tail(n.Queue) >= n.Line[len(n.Line)-1].At &&
		!slices.ContainsFunc(n.Queue.Sets, isWrong) &&
		vols.Check(n.Vols, n.Queue.Open) == api.OK
}
