package node

import (
	"slices"

	"counterfoil/api"
	"counterfoil/dirty"
	"counterfoil/lag"
	"counterfoil/queue"
	"counterfoil/snap"
	"counterfoil/vols"
)

// Commit returns n after one more commit.
func Commit(n api.Node, c api.Change, b api.Bound) (api.Node, api.Errno) {
	if !lag.Right(b) {
		return api.Node{}, api.ErrArg
	}
	if e := writable(n); e != api.OK {
		return api.Node{}, e
	}
	if n.Seq == api.MaxNum {
		return api.Node{}, api.ErrFull
	}
	switch c.Kind {
	case api.ChWrite:
		return commitWrites(n, c.Writes, b)
	case api.ChAdd, api.ChDrop, api.ChResize:
		return commitShape(n, c)
	}
	return api.Node{}, api.ErrArg
}

func commitWrites(n api.Node, ws []api.Write, b api.Bound) (api.Node, api.Errno) {
	if len(ws) == 0 || len(ws) > api.MaxTxn {
		return api.Node{}, api.ErrArg
	}
	if e := vols.Check(n.Vols, ws); e != api.OK {
		return api.Node{}, e
	}
	shots, e := noted(n, ws)
	if e != api.OK {
		return api.Node{}, e
	}
	n.Shots = shots
	if isForwarding(n) {
		switch lag.Judge(b, n.Queue, ws) {
		case lag.Refuse:
			return api.Node{}, api.ErrLag
		case lag.Spill:
			n = suspended(n)
		}
	}
	return written(n, ws), api.OK
}

// noted returns the snapshots of n with what they need once the possible writes ws are applied, or ErrSnap.
func noted(n api.Node, ws []api.Write) ([]api.Shot, api.Errno) {
	shots := slices.Clone(n.Shots)
	for i, s := range shots {
		kept, e := snap.Note(s.Kept, n.Vols, ws, api.Room)
		if e != api.OK {
			return nil, e
		}
		shots[i].Kept = kept
	}
	return shots, api.OK
}

// written returns n after a commit of possible writes, which the snapshots are ready for and the bound has room for: nothing here can fail.
func written(n api.Node, ws []api.Write) api.Node {
	n.Vols, _ = vols.Apply(n.Vols, ws)
	if hasAnchor(n) {
		marks, _ := dirty.Of(ws)
		n.Changed, _ = dirty.Join(n.Changed, marks)
	}
	if isForwarding(n) {
		n.Queue, _ = queue.Add(n.Queue, ws)
	}
	n.Seq++
	return n
}

func commitShape(n api.Node, c api.Change) (api.Node, api.Errno) {
	if n.Mode != api.Off || len(n.Shots) > 0 {
		return api.Node{}, api.ErrState
	}
	vs, e := shaped(n.Vols, c)
	if e != api.OK {
		return api.Node{}, e
	}
	n = withoutAnchor(n)
	n.Vols = vs
	n.Seq++
	return n, api.OK
}

// shaped expects a change of the number or the sizes of the volumes.
func shaped(vs []api.Vol, c api.Change) ([]api.Vol, api.Errno) {
	switch c.Kind {
	case api.ChAdd:
		return vols.Add(vs, c.Vol, c.Size)
	case api.ChDrop:
		return vols.Drop(vs, c.Vol)
	}
	return vols.Resize(vs, c.Vol, c.Size)
}
