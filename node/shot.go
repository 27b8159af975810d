package node

import (
	"slices"

	"counterfoil/api"
	"counterfoil/snap"
)

// Shoot returns n with one more snapshot, and its number.
func Shoot(n api.Node) (api.Node, int, api.Errno) {
	if e := writable(n); e != api.OK {
		return api.Node{}, 0, e
	}
	if len(n.Shots) == api.MaxSnaps || n.Shot == api.MaxNum {
		return api.Node{}, 0, api.ErrFull
	}
	n.Shot++
	// In place, the snapshot could overwrite one of another node that was made from the same list.
	n.Shots = append(slices.Clone(n.Shots), api.Shot{N: n.Shot, Seq: n.Seq})
	return n, n.Shot, api.OK
}

// Unshoot returns n without the snapshot k.
func Unshoot(n api.Node, k int) (api.Node, api.Errno) {
	at, e := find(n, k)
	if e != api.OK {
		return api.Node{}, e
	}
	n.Shots = slices.Delete(slices.Clone(n.Shots), at, at+1)
	return n, api.OK
}

// Peek returns the content of a block in the snapshot k.
func Peek(n api.Node, k int, vol int, block int) (string, api.Errno) {
	at, e := find(n, k)
	if e != api.OK {
		return "", e
	}
	return snap.Read(n.Shots[at].Kept, n.Vols, vol, block)
}

// Revert returns n after one more commit, by which its volumes become those of the snapshot k.
func Revert(n api.Node, k int) (api.Node, api.Errno) {
	at, e := find(n, k)
	if e != api.OK {
		return api.Node{}, e
	}
	if isForwarding(n) {
		return api.Node{}, api.ErrState
	}
	if n.Seq == api.MaxNum {
		return api.Node{}, api.ErrFull
	}
	ws := n.Shots[at].Kept
	shots, e := noted(n, ws)
	if e != api.OK {
		return api.Node{}, e
	}
	n.Shots = shots
	return written(n, ws), api.OK
}

// find returns where the snapshot k stands, or why there is none to be had.
func find(n api.Node, k int) (int, api.Errno) {
	if e := writable(n); e != api.OK {
		return 0, e
	}
	at := slices.IndexFunc(n.Shots, func(s api.Shot) bool { return s.N == k })
	if at < 0 {
		return 0, api.ErrNone
	}
	return at, api.OK
}
