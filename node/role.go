package node

import (
	"counterfoil/api"
	"counterfoil/line"
	"counterfoil/queue"
)

// Attach returns n with its mirror being started.
func Attach(n api.Node) (api.Node, api.Errno) {
	if e := writable(n); e != api.OK {
		return api.Node{}, e
	}
	if n.Mode != api.Off && n.Mode != api.Suspended {
		return api.Node{}, api.ErrState
	}
	n.Mode = api.Asking
	return n, api.OK
}

// Suspend returns n with commits only marked from now on.
func Suspend(n api.Node) (api.Node, api.Errno) {
	if e := writable(n); e != api.OK {
		return api.Node{}, e
	}
	if n.Mode == api.Off || n.Mode == api.Suspended {
		return api.Node{}, api.ErrState
	}
	return suspended(n), api.OK
}

// Detach returns n without a mirror.
func Detach(n api.Node) (api.Node, api.Errno) {
	if e := writable(n); e != api.OK {
		return api.Node{}, e
	}
	n = withoutAnchor(suspended(n))
	n.Mode = api.Off
	return n, api.OK
}

// Promote returns the remote n as the primary of a new epoch.
func Promote(n api.Node, site int) (api.Node, api.Errno) {
	if !Right(n) || !isSite(site) {
		return api.Node{}, api.ErrArg
	}
	if n.Role == api.Primary {
		return api.Node{}, api.ErrState
	}
	if !n.Valid {
		return api.Node{}, api.ErrCopy
	}
	epoch := line.Next(n.Known, site)
	if epoch == 0 || len(n.Line) == api.MaxEpochs {
		return api.Node{}, api.ErrFull
	}
	n.Vols = safe(n)
	n.Shield, n.Kept = false, nil
	// A valid remote has a line, whose epochs are at most Known: a later one can always go on behind it.
	n.Line, _ = line.Grow(n.Line, epoch, n.Seq)
	n.Role, n.Mode, n.Known, n.Stale = api.Primary, api.Suspended, epoch, false
	return withoutSync(n), api.OK
}

// Demote returns the primary n, whose commits are all at the other site, as a remote.
func Demote(n api.Node) (api.Node, api.Errno) {
	if e := writable(n); e != api.OK {
		return api.Node{}, e
	}
	if waiting, _ := queue.Load(n.Queue); n.Mode != api.Active || waiting > 0 {
		return api.Node{}, api.ErrState
	}
	n = withoutSync(retired(n))
	n.Anchor, n.Changed = place(n), nil
	return n, api.OK
}

// Fence returns n once it has been told of an epoch.
func Fence(n api.Node, epoch int) (api.Node, api.Errno) {
	if !Right(n) || isNoNumber(epoch) {
		return api.Node{}, api.ErrArg
	}
	if epoch <= n.Known {
		return n, api.OK
	}
	n.Known = epoch
	if n.Role == api.Primary {
		n = retired(n)
		n.Stale = true
	}
	return n, api.OK
}

// retired returns a primary as a remote, which has neither a mirror nor snapshots.
func retired(n api.Node) api.Node {
	n = suspended(n)
	n.Role, n.Mode, n.Shots = api.Remote, api.Off, nil
	return n
}
