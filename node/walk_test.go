package node_test

import (
	"math/rand"
	"strconv"
	"testing"

	"counterfoil/api"
	"counterfoil/dirty"
	"counterfoil/fold"
	"counterfoil/line"
	"counterfoil/node"
	"counterfoil/queue"
	"counterfoil/snap"
	"counterfoil/vols"
)

// walk is a node at a site, and beside it the volumes that each commit of its history led to.
type walk struct {
	t    *testing.T
	rnd  *rand.Rand
	site int
	n    api.Node
	past [][]api.Vol
}

func newWalk(t *testing.T, seed int64, site int) *walk {
	n, e := node.First(site, []int{1, 3, 7, 32})
	if e != api.OK {
		t.Fatalf("First: %d", e)
	}
	return &walk{t: t, rnd: rand.New(rand.NewSource(seed)), site: site, n: n, past: [][]api.Vol{n.Vols}}
}

func (w *walk) now() []api.Vol { return w.past[len(w.past)-1] }

func (w *walk) is(role, mode int) bool { return w.n.Role == role && w.n.Mode == mode }

// take makes the result of a call the node; a refused call leaves nothing behind.
func (w *walk) take(name string, got api.Node, e api.Errno) bool {
	w.t.Helper()
	if e != api.OK {
		expectNone(w.t, name, got, e, e)
		return false
	}
	w.n = got
	return true
}

// writes are sometimes more than a transaction may have, or none, or not possible.
func (w *walk) writes() []api.Write {
	var ws []api.Write
	for range w.rnd.Intn(5) * w.rnd.Intn(3) {
		v := w.rnd.Intn(len(w.n.Vols) + 1)
		id := 7
		if v < len(w.n.Vols) {
			id = w.n.Vols[v].ID
		}
		ws = append(ws, write(id, w.rnd.Intn(1+w.rnd.Intn(33)), strconv.Itoa(w.rnd.Intn(10000))))
	}
	return ws
}

func (w *walk) bound() api.Bound {
	return api.Bound{Txns: 1 + w.rnd.Intn(12), Bytes: 1 + w.rnd.Intn(300), Hold: w.rnd.Intn(2) == 0}
}

// commit keeps what the writes do to a copy of the volumes, apart from the node.
func (w *walk) commit() {
	ws, b := w.writes(), w.bound()
	waiting, size := queue.Load(w.n.Queue)
	within := waiting+1 <= b.Txns && size+fold.Bytes(ws) <= b.Bytes
	forwarding := w.n.Mode == api.Copying || w.n.Mode == api.Active
	got, e := node.Commit(w.n, change(ws...), b)
	if e == api.ErrLag && (!forwarding || !b.Hold || within) {
		w.t.Fatalf("Commit of %v is refused: %+v, %+v", ws, w.n, b)
	}
	if !w.take("Commit", got, e) {
		return
	}
	if forwarding && !within && (b.Hold || w.n.Mode != api.Suspended) {
		w.t.Fatalf("Commit of %v goes beyond the bound: %+v, %+v", ws, w.n, b)
	}
	next, e := vols.Apply(w.now(), ws)
	if e != api.OK {
		w.t.Fatalf("Commit takes %v, which is not possible", ws)
	}
	w.past = append(w.past, next)
}

func (w *walk) reshape() {
	id, size := 1+w.rnd.Intn(9), w.rnd.Intn(33)
	kind := api.ChAdd + w.rnd.Intn(3)
	got, e := node.Commit(w.n, shape(kind, id, size), w.bound())
	if !w.take("Commit", got, e) {
		return
	}
	var next []api.Vol
	switch kind {
	case api.ChAdd:
		next, e = vols.Add(w.now(), id, size)
	case api.ChDrop:
		next, e = vols.Drop(w.now(), id)
	case api.ChResize:
		next, e = vols.Resize(w.now(), id, size)
	}
	if e != api.OK {
		w.t.Fatalf("Commit takes a change %d of %d, %d", kind, id, size)
	}
	w.past = append(w.past, next)
}

func (w *walk) revert() {
	k := w.shotNumber()
	seq := -1
	for _, s := range w.n.Shots {
		if s.N == k {
			seq = s.Seq
		}
	}
	got, e := node.Revert(w.n, k)
	if w.take("Revert", got, e) {
		w.past = append(w.past, w.past[seq])
	}
}

func (w *walk) shotNumber() int { return w.n.Shot - 2 + w.rnd.Intn(4) }

// roles are told to a node whatever it is; a promoted one and a fenced one know more than before.
func (w *walk) roles() {
	known := w.n.Known
	switch w.rnd.Intn(6) {
	case 0, 1:
		got, e := node.Promote(w.n, w.site)
		if w.take("Promote", got, e) && (w.n.Known <= known || w.n.Known%2 == w.site || line.Last(w.n.Line) != w.n.Known) {
			w.t.Fatalf("Promote at %d behind %d: %+v", w.site, known, w.n)
		}
	case 2:
		got, e := node.Fence(w.n, w.n.Known-1+w.rnd.Intn(4))
		w.take("Fence", got, e)
	case 3:
		got, e := node.Demote(w.n)
		w.take("Demote", got, e)
	case 4:
		got, e := node.Detach(w.n)
		w.take("Detach", got, e)
	case 5:
		got, e := node.Suspend(w.n)
		w.take("Suspend", got, e)
	}
}

func (w *walk) shots() {
	if w.rnd.Intn(2) == 0 {
		got, k, e := node.Shoot(w.n)
		if w.take("Shoot", got, e) && k != w.n.Shot {
			w.t.Fatalf("Shoot returns %d: %+v", k, w.n)
		}
		return
	}
	got, e := node.Unshoot(w.n, w.shotNumber())
	w.take("Unshoot", got, e)
}

// mirror does what the layer above does to a node: the copy begins and ends, sets are closed and arrive, and a remote is copied to.
func (w *walk) mirror() {
	switch {
	case w.is(api.Primary, api.Asking):
		w.n.Mode, w.n.Got, w.n.Full = api.Copying, -1, w.rnd.Intn(2) == 0
		w.n.Queue, _ = queue.New(w.n.Seq)
		w.n.Copy, _ = fold.Pick(w.n.Vols, dirty.List(dirty.All(w.n.Vols)))
	case w.is(api.Primary, api.Copying):
		w.n.Mode, w.n.Copy, w.n.Got, w.n.Full = api.Active, nil, 0, false
		w.anchorAtTail()
	case w.is(api.Primary, api.Active) && w.rnd.Intn(2) == 0:
		if q, e := queue.Cut(w.n.Queue); e == api.OK {
			w.n.Queue = q
		}
	case w.is(api.Primary, api.Active):
		w.n.Queue, _ = queue.Done(w.n.Queue, w.n.Seq-w.rnd.Intn(4))
		w.anchorAtTail()
	case w.n.Role == api.Remote && w.n.Valid:
		ws := w.writes()
		if vols.Check(w.n.Vols, ws) == api.OK {
			w.n.Shield = true
			w.n.Kept, _ = snap.Note(w.n.Kept, w.n.Vols, ws, 999)
			w.n.Vols, _ = vols.Apply(w.n.Vols, ws)
		}
	default:
		got, e := node.Attach(w.n)
		w.take("Attach", got, e)
	}
}

func (w *walk) anchorAtTail() {
	w.n.Anchor = api.Pos{Line: copied(w.n.Line), Seq: queue.Tail(w.n.Queue)}
	w.n.Changed, _ = dirty.Of(queue.All(w.n.Queue))
}

func (w *walk) step() {
	switch w.rnd.Intn(12) {
	case 0:
		w.roles()
	case 1:
		w.shots()
	case 2:
		w.revert()
	case 3:
		w.reshape()
	case 4, 5, 6:
		w.mirror()
	default:
		w.commit()
	}
}

// expectHistory holds the node against its past: the safe volumes, the snapshots, what waits, and what has not changed since the anchor.
func (w *walk) expectHistory() {
	w.t.Helper()
	vs, p, ok := node.Safe(w.n)
	if !node.Right(w.n) || !ok || p.Seq != len(w.past)-1 || !vols.Same(vs, w.now()) {
		w.t.Fatalf("Safe = %v, %v, %v, want %v of %+v", vs, p, ok, w.now(), w.n)
	}
	for _, s := range w.n.Shots {
		if was, e := snap.Back(s.Kept, w.n.Vols); e != api.OK || !vols.Same(was, w.past[s.Seq]) {
			w.t.Fatalf("snapshot %d is %v, want %v", s.N, was, w.past[s.Seq])
		}
	}
	if w.n.Mode == api.Copying || w.n.Mode == api.Active {
		if there, e := vols.Apply(w.past[queue.Tail(w.n.Queue)], queue.All(w.n.Queue)); e != api.OK || !vols.Same(there, w.now()) {
			w.t.Fatalf("what waits leads to %v, want %v", there, w.now())
		}
	}
	if len(w.n.Anchor.Line) == 0 {
		return
	}
	for _, m := range dirty.List(dirty.All(vs)) {
		now, _ := vols.Get(vs, m.Vol, m.Block)
		was, e := vols.Get(w.past[w.n.Anchor.Seq], m.Vol, m.Block)
		if (now != was || e != api.OK) && !dirty.Has(w.n.Changed, m.Vol, m.Block) {
			w.t.Fatalf("block %v is %q, was %q at the anchor, and is not in %v", m, now, was, w.n.Changed)
		}
	}
}

// P18.2 to P18.6: long rows of calls, and what they leave of the node that they were made on.
func TestWalks(t *testing.T) {
	modes, roles := map[int]int{}, map[int]int{}
	for seed := range 60 {
		w := newWalk(t, int64(seed), seed%2)
		for range 200 {
			old, before := w.n, clone(w.n)
			w.step()
			if !same(old, before) {
				t.Fatalf("the argument is changed: %+v, was %+v", old, before)
			}
			if w.n.Seq < before.Seq || w.n.Known < before.Known || w.n.Shot < before.Shot {
				t.Fatalf("%+v was %+v", w.n, before)
			}
			w.expectHistory()
			modes[w.n.Mode]++
			roles[w.n.Role]++
		}
	}
	for mode := api.Off; mode <= api.Suspended; mode++ {
		if modes[mode] < 100 {
			t.Errorf("mode %d came up only %d times", mode, modes[mode])
		}
	}
	if roles[api.Remote] < 100 {
		t.Errorf("a remote came up only %d times", roles[api.Remote])
	}
}

// P4: two sites that take turns never start the same epoch, and each one's epochs grow.
func TestEpochsOfTwoSites(t *testing.T) {
	rnd := rand.New(rand.NewSource(1))
	var ends [2]api.Node
	ends[0], _ = node.First(0, []int{1, 1})
	ends[1], _ = node.First(1, []int{1, 1})
	owner := map[int]int{1: 0, 2: 1}
	for range 300 {
		site := rnd.Intn(2)
		n, e := node.Fence(ends[site], ends[rnd.Intn(2)].Known)
		if e != api.OK {
			t.Fatalf("Fence: %d", e)
		}
		ends[site] = n
		p, e := node.Promote(n, site)
		if e != api.OK {
			continue
		}
		if _, there := owner[p.Known]; there || p.Known <= n.Known || !node.Right(p) {
			t.Fatalf("site %d starts epoch %d, which it knew or another one has: %v", site, p.Known, owner)
		}
		owner[p.Known] = site
		ends[site] = p
	}
	if len(owner) < 20 {
		t.Errorf("only %d epochs were started", len(owner))
	}
}
