package queue_test

import (
	"math"
	"math/rand"
	"slices"
	"strconv"
	"testing"

	"counterfoil/api"
	"counterfoil/fold"
	"counterfoil/queue"
	"counterfoil/vols"
)

const most = api.MaxNum

func write(vol, block int, data string) api.Write {
	return api.Write{Vol: vol, Block: block, Data: data}
}

func set(from, to int, ws ...api.Write) api.Set { return api.Set{From: from, To: to, Writes: ws} }

// closed makes a queue whose open set has no commits.
func closed(sets ...api.Set) api.Queue {
	last := sets[len(sets)-1].To
	return api.Queue{Sets: sets, From: last, To: last}
}

// open adds an open set, which must end at to.
func open(q api.Queue, to int, ws ...api.Write) api.Queue {
	q.Open, q.To = ws, to
	return q
}

func at(seq int) api.Queue { return api.Queue{From: seq, To: seq} }

func clone(q api.Queue) api.Queue {
	q.Sets, q.Open = slices.Clone(q.Sets), slices.Clone(q.Open)
	for i := range q.Sets {
		q.Sets[i].Writes = slices.Clone(q.Sets[i].Writes)
	}
	return q
}

func sameSet(a, b api.Set) bool {
	return a.From == b.From && a.To == b.To && slices.Equal(a.Writes, b.Writes)
}

func same(a, b api.Queue) bool {
	return a.From == b.From && a.To == b.To && slices.Equal(a.Open, b.Open) && slices.EqualFunc(a.Sets, b.Sets, sameSet)
}

func expect(t *testing.T, name string, got api.Queue, e api.Errno, want api.Queue) {
	t.Helper()
	if e != api.OK || !same(got, want) {
		t.Errorf("%s: %v, %d, want %v", name, got, e, want)
	}
	if !queue.Right(got) {
		t.Errorf("%s: %v is not valid", name, got)
	}
}

func expectNone(t *testing.T, name string, got api.Queue, e api.Errno, want api.Errno) {
	t.Helper()
	if e != want || !same(got, api.Queue{}) {
		t.Errorf("%s: %v, %d, want error %d", name, got, e, want)
	}
}

func rightQueues() map[string]api.Queue {
	a, b, c := write(1, 0, "a"), write(1, 1, "b"), write(2, 0, "c")
	return map[string]api.Queue{
		"zero":                     {},
		"empty lists":              {Sets: []api.Set{}, Open: []api.Write{}},
		"nothing behind 3":         at(3),
		"nothing behind 2^40":      at(most),
		"an open commit":           open(at(0), 1, a),
		"open, without writes":     open(at(3), 5),
		"more writes than commits": open(at(3), 4, a, b, c),
		"the longest open set":     open(at(0), most, a),
		"the last open set":        open(at(most-1), most, a),
		"a closed set":             closed(set(3, 5, a, b)),
		"closed, without writes":   closed(set(3, 5)),
		"the first commit":         closed(set(0, 1, a)),
		"the longest set":          closed(set(0, most, a)),
		"the last set":             closed(set(most-1, most)),
		"closed and open":          open(closed(set(3, 5, a)), 6, b),
		"the same block in each":   open(closed(set(0, 2, a, b), set(2, 3, a), set(3, 9, b, c)), 12, a, c),
		"up to 2^40":               open(closed(set(0, 1, a), set(1, most-2, b), set(most-2, most-1)), most, c),
		"any integers":             open(closed(set(1, 2, write(math.MinInt, 0, ""), write(0, -1, ""), write(0, math.MaxInt, "longer than a block"))), 3, write(-1, 1<<50, "")),
	}
}

func wrongQueues() map[string]api.Queue {
	a, b, c := write(1, 0, "a"), write(1, 1, "b"), write(2, 0, "c")
	gap, overlap, apart := closed(set(1, 3), set(4, 5)), closed(set(1, 3), set(2, 5)), closed(set(1, 3), set(3, 5))
	apart.From++
	apart.To++
	behind := open(closed(set(1, 3), set(3, 5)), 7)
	behind.From--
	first := open(closed(set(1, 3), set(3, 5)), 7)
	first.From = 1
	return map[string]api.Queue{
		"at -1":                       at(-1),
		"at the least int":            at(math.MinInt),
		"at 2^40 + 1":                 at(most + 1),
		"at the greatest int":         at(math.MaxInt),
		"From -1":                     open(at(-1), 1, a),
		"From the least int":          open(at(math.MinInt), 1, a),
		"To below From":               open(at(2), 1),
		"To far below From":           open(at(most), 0),
		"To -1":                       open(at(0), -1),
		"To the least int":            open(at(0), math.MinInt),
		"To 2^40 + 1":                 open(at(0), most+1, a),
		"To the greatest int":         open(at(0), math.MaxInt, a),
		"from the least to the most":  open(at(math.MinInt), math.MaxInt, a),
		"writes of no commit":         open(at(0), 0, a),
		"writes of no commit later":   open(closed(set(3, 5, a)), 5, b),
		"the open block twice":        open(at(0), 2, a, a),
		"open blocks that fall":       open(at(0), 2, b, a),
		"open volumes that fall":      open(at(0), 2, c, a),
		"a set from -1":               closed(set(-1, 5)),
		"a set from the least int":    closed(set(math.MinInt, 5)),
		"a set to 2^40 + 1":           closed(set(0, most+1)),
		"a set to the greatest int":   closed(set(0, math.MaxInt)),
		"a set up to 0":               closed(set(-1, 0)),
		"a set of no commit":          closed(set(3, 3)),
		"a set that falls":            closed(set(5, 3)),
		"a set of no commit, first":   closed(set(3, 3), set(3, 4)),
		"a set of no commit, between": closed(set(1, 3), set(3, 3), set(3, 4)),
		"a set of no commit, last":    closed(set(1, 3), set(3, 3)),
		"a set that falls, between":   closed(set(1, 3), set(3, 2), set(2, 4)),
		"a gap":                       gap,
		"an overlap":                  overlap,
		"the sets exchanged":          closed(set(3, 5), set(1, 3)),
		"a set twice":                 closed(set(1, 3), set(1, 3)),
		"From behind the sets":        apart,
		"From ahead of their end":     behind,
		"From at the first set":       first,
		"a closed block twice":        closed(set(3, 5, a, a)),
		"closed blocks that fall":     closed(set(3, 5, b, a)),
		"closed volumes that fall":    closed(set(3, 5, c, a)),
		"unfolded first":              open(closed(set(1, 2, a, a), set(2, 3, a), set(3, 4, a)), 5, a),
		"unfolded between":            open(closed(set(1, 2, a), set(2, 3, b, a), set(3, 4, a)), 5, a),
		"unfolded last":               open(closed(set(1, 2, a), set(2, 3, a), set(3, 4, a, c, b)), 5, a),
		"unfolded open":               open(closed(set(1, 2, a), set(2, 3, a), set(3, 4, a)), 5, a, b, b),
		"To below closed sets":        open(closed(set(1, 3)), 2),
	}
}

// P12.1.
func TestRight(t *testing.T) {
	for name, q := range rightQueues() {
		if !queue.Right(q) {
			t.Errorf("%s: Right is false", name)
		}
	}
	for name, q := range wrongQueues() {
		if queue.Right(q) {
			t.Errorf("%s: Right is true", name)
		}
	}
}

// P12.1: all queues of up to two sets with small numbers, by the words of the definition.
func TestRightOfAllSmallQueues(t *testing.T) {
	const low, high = -1, 4
	for from := low; from <= high; from++ {
		for to := low; to <= high; to++ {
			own := from >= 0 && to >= from
			expectRight(t, api.Queue{From: from, To: to}, own)
			expectRight(t, api.Queue{From: from, To: to, Open: []api.Write{write(1, 0, "")}}, own && to > from)
			for f := low; f <= high; f++ {
				for m := low; m <= high; m++ {
					one := own && f >= 0 && m > f
					expectRight(t, api.Queue{From: from, To: to, Sets: []api.Set{set(f, m)}}, one && m == from)
					for l := low; l <= high; l++ {
						two := []api.Set{set(f, m), set(m, l)}
						expectRight(t, api.Queue{From: from, To: to, Sets: two}, one && l > m && l == from)
					}
				}
			}
		}
	}
}

func expectRight(t *testing.T, q api.Queue, want bool) {
	t.Helper()
	if queue.Right(q) != want {
		t.Errorf("Right(%v) is %v", q, !want)
	}
}

// P12.1: one wrong set is enough, wherever it stands.
func TestRightSeesEachSet(t *testing.T) {
	var sets []api.Set
	for i := range 40 {
		sets = append(sets, set(2*i, 2*i+2, write(1, 0, "a"), write(1, 1, "b")))
	}
	expectRight(t, closed(sets...), true)
	for i := range sets {
		unfolded, longer, shorter, empty := clone(closed(sets...)), clone(closed(sets...)), clone(closed(sets...)), clone(closed(sets...))
		unfolded.Sets[i].Writes[1].Block = 0
		longer.Sets[i].To++
		shorter.Sets[i].From++
		empty.Sets[i].To = empty.Sets[i].From
		expectRight(t, unfolded, false)
		expectRight(t, longer, false)
		// The first set has none ahead of it.
		expectRight(t, shorter, i == 0)
		expectRight(t, empty, false)
	}
}

// P12.1: a queue that is not valid comes ahead of every other error.
func TestWrongQueues(t *testing.T) {
	for name, q := range wrongQueues() {
		if n := queue.Tail(q); n != 0 {
			t.Errorf("%s: Tail = %d", name, n)
		}
		if n, size := queue.Load(q); n != 0 || size != 0 {
			t.Errorf("%s: Load = %d, %d", name, n, size)
		}
		if ws := queue.All(q); len(ws) != 0 {
			t.Errorf("%s: All = %v", name, ws)
		}
		for _, ws := range [][]api.Write{nil, {write(1, 0, "a")}} {
			got, e := queue.Add(q, ws)
			expectNone(t, name+", Add", got, e, api.ErrArg)
		}
		got, e := queue.Cut(q)
		expectNone(t, name+", Cut", got, e, api.ErrArg)
		for _, seq := range []int{math.MinInt, -1, 0, 3, q.To, math.MaxInt} {
			got, e := queue.Done(q, seq)
			expectNone(t, name+", Done", got, e, api.ErrArg)
		}
	}
}

// P12.1.
func TestNew(t *testing.T) {
	for _, seq := range []int{0, 1, 3, 1 << 32, most - 1, most} {
		q, e := queue.New(seq)
		expect(t, "New", q, e, at(seq))
		if n, size := queue.Load(q); n != 0 || size != 0 || queue.Tail(q) != seq || len(queue.All(q)) != 0 {
			t.Errorf("New(%d) has %d commits of %d bytes behind %d", seq, n, size, queue.Tail(q))
		}
	}
	for _, seq := range []int{math.MinInt, -most, -1, most + 1, 1 << 41, math.MaxInt} {
		q, e := queue.New(seq)
		expectNone(t, "New("+strconv.Itoa(seq)+")", q, e, api.ErrArg)
	}
}

// P12.1.
func TestTail(t *testing.T) {
	for _, c := range []struct {
		q    api.Queue
		want int
	}{
		{api.Queue{}, 0},
		{at(3), 3},
		{at(most), most},
		{open(at(3), 9), 3},
		{open(at(most-1), most), most - 1},
		{closed(set(0, 5)), 0},
		{closed(set(3, 5)), 3},
		{open(closed(set(3, 5)), 7), 3},
		{open(closed(set(3, 5), set(5, 6), set(6, 8)), 9), 3},
		{open(closed(set(most-2, most-1)), most), most - 2},
	} {
		if n := queue.Tail(c.q); n != c.want {
			t.Errorf("Tail(%v) = %d, want %d", c.q, n, c.want)
		}
	}
}

// P12.2: the later write prevails within the open set, and only there.
func TestAdd(t *testing.T) {
	a, b, c := write(1, 0, "a"), write(1, 0, "b"), write(0, 5, "c")
	for _, x := range []struct {
		name string
		q    api.Queue
		ws   []api.Write
		want api.Queue
	}{
		{"to the zero queue", api.Queue{}, []api.Write{a}, open(at(0), 1, a)},
		{"no writes", at(3), nil, open(at(3), 4)},
		{"no writes, empty", at(3), []api.Write{}, open(at(3), 4)},
		{"no writes to writes", open(at(3), 4, a), nil, open(at(3), 5, a)},
		{"over a write", open(at(3), 4, a), []api.Write{b}, open(at(3), 5, b)},
		{"unfolded", at(3), []api.Write{a, c, b}, open(at(3), 4, c, b)},
		{"unfolded, over a write", open(at(3), 4, b), []api.Write{b, a, c}, open(at(3), 5, c, a)},
		{"ahead of a write", open(at(3), 4, a), []api.Write{c}, open(at(3), 5, c, a)},
		{"behind a write", open(at(3), 4, c), []api.Write{a}, open(at(3), 5, c, a)},
		{"over a closed write", closed(set(1, 3, a)), []api.Write{b}, open(closed(set(1, 3, a)), 4, b)},
		{"closed and open", open(closed(set(1, 3, a), set(3, 4)), 5, c), []api.Write{b}, open(closed(set(1, 3, a), set(3, 4)), 6, c, b)},
		{"any integers", at(0), []api.Write{write(math.MaxInt, -1, "longer than a block"), write(math.MinInt, 99, "")},
			open(at(0), 1, write(math.MinInt, 99, ""), write(math.MaxInt, -1, "longer than a block"))},
		{"the last commit", open(at(0), most-1, a), []api.Write{b}, open(at(0), most, b)},
		{"the last commit of none", at(most - 1), []api.Write{a}, open(at(most-1), most, a)},
	} {
		got, e := queue.Add(x.q, x.ws)
		expect(t, x.name, got, e, x.want)
	}
	for name, q := range rightQueues() {
		if q.To == most {
			got, e := queue.Add(q, []api.Write{a})
			expectNone(t, name+", Add", got, e, api.ErrArg)
			got, e = queue.Add(q, nil)
			expectNone(t, name+", Add of nothing", got, e, api.ErrArg)
		}
	}
}

// P12.2: commits without writes are closed as well, and 2^40 is no limit here.
func TestCut(t *testing.T) {
	a, b := write(1, 0, "a"), write(1, 1, "b")
	for _, x := range []struct {
		name    string
		q, want api.Queue
	}{
		{"one", open(at(0), 1, a), closed(set(0, 1, a))},
		{"many", open(at(3), 90, a, b), closed(set(3, 90, a, b))},
		{"without writes", open(at(3), 4), closed(set(3, 4))},
		{"behind a set", open(closed(set(1, 3, a)), 4, a), closed(set(1, 3, a), set(3, 4, a))},
		{"behind two sets", open(closed(set(1, 3, a), set(3, 4)), 7, b), closed(set(1, 3, a), set(3, 4), set(4, 7, b))},
		{"up to 2^40", open(at(0), most, a), closed(set(0, most, a))},
	} {
		got, e := queue.Cut(x.q)
		expect(t, x.name, got, e, x.want)
		again, e := queue.Cut(got)
		expectNone(t, x.name+", again", again, e, api.ErrNone)
	}
	for name, q := range rightQueues() {
		if q.To == q.From {
			got, e := queue.Cut(q)
			expectNone(t, name+", Cut", got, e, api.ErrNone)
		}
	}
}

// P12.2: a set that has come in part stays, and so does the open set.
func TestDone(t *testing.T) {
	a, b, c := set(3, 5, write(1, 0, "a")), set(5, 6), set(6, 9, write(1, 0, "c"))
	w := write(1, 1, "w")
	full := open(closed(a, b, c), 12, w)
	for _, x := range []struct {
		q    api.Queue
		seqs []int
		want api.Queue
	}{
		{full, []int{math.MinInt, -1, 0, 3, 4}, full},
		{full, []int{5}, open(closed(b, c), 12, w)},
		{full, []int{6, 7, 8}, open(closed(c), 12, w)},
		{full, []int{9, 10, 12, 13, most, most + 1, math.MaxInt}, open(at(9), 12, w)},
		{closed(a, b, c), []int{4}, closed(a, b, c)},
		{closed(a, b, c), []int{9, 10, math.MaxInt}, at(9)},
		{open(at(3), 5, w), []int{-1, 3, 4, 5, 6, math.MaxInt}, open(at(3), 5, w)},
		{at(3), []int{math.MinInt, 0, 3, 4, math.MaxInt}, at(3)},
		{api.Queue{}, []int{-1, 0, 1}, api.Queue{}},
		{closed(set(0, most)), []int{most - 1}, closed(set(0, most))},
		{closed(set(0, most)), []int{most}, at(most)},
	} {
		for _, seq := range x.seqs {
			got, e := queue.Done(x.q, seq)
			expect(t, "Done("+strconv.Itoa(seq)+")", got, e, x.want)
		}
	}
}

// P12.3: the size counts a block once in each set that has it, All only once.
func TestLoadAndAll(t *testing.T) {
	a, b, c, d := write(1, 0, "a"), write(1, 0, ""), write(0, 5, "\u20ac"), write(2, 0, "12345678")
	for _, x := range []struct {
		name    string
		q       api.Queue
		n, size int
		all     []api.Write
	}{
		{"zero", api.Queue{}, 0, 0, nil},
		{"nothing", at(most), 0, 0, nil},
		{"open, without writes", open(at(3), 9), 6, 0, nil},
		{"closed, without writes", closed(set(3, 5), set(5, 9)), 6, 0, nil},
		{"open", open(at(3), 4, c, a), 1, 20, []api.Write{c, a}},
		{"closed", closed(set(3, 5, a)), 2, 9, []api.Write{a}},
		{"closed and open", open(closed(set(3, 5, a)), 6, b), 3, 17, []api.Write{b}},
		{"the last set prevails", closed(set(3, 5, b), set(5, 6, c, a)), 3, 28, []api.Write{c, a}},
		{"the open set prevails", open(closed(set(3, 5, a), set(5, 6, d), set(6, 7, a)), 8, c, b), 5, 53, []api.Write{c, b, d}},
		{"the greatest", open(closed(set(0, most-1, a)), most, d), most, 25, []api.Write{a, d}},
	} {
		if n, size := queue.Load(x.q); n != x.n || size != x.size {
			t.Errorf("%s: Load = %d, %d, want %d, %d", x.name, n, size, x.n, x.size)
		}
		if all := queue.All(x.q); !slices.Equal(all, x.all) {
			t.Errorf("%s: All = %v, want %v", x.name, all, x.all)
		}
	}
}

// The chapter's example.
func TestExample(t *testing.T) {
	q, e := queue.New(3)
	expect(t, "New", q, e, at(3))
	q, e = queue.Add(q, []api.Write{write(1, 0, "a")})
	expect(t, "Add", q, e, open(at(3), 4, write(1, 0, "a")))
	q, e = queue.Add(q, []api.Write{write(1, 0, "b")})
	expect(t, "Add", q, e, open(at(3), 5, write(1, 0, "b")))
	q, e = queue.Cut(q)
	expect(t, "Cut", q, e, closed(set(3, 5, write(1, 0, "b"))))
	if n, size := queue.Load(q); n != 2 || size != 9 {
		t.Errorf("Load = %d, %d", n, size)
	}
	q, e = queue.Done(q, 5)
	expect(t, "Done", q, e, at(5))
	if n, _ := queue.Load(q); n != 0 || queue.Tail(q) != 5 {
		t.Errorf("%d commits wait behind %d", n, queue.Tail(q))
	}
}

// model keeps every commit that waits by itself, and where the closed sets end.
type model struct {
	tail    int
	commits [][]api.Write
	ends    []int
}

func (m *model) to() int { return m.tail + len(m.commits) }

func (m *model) from() int {
	if len(m.ends) == 0 {
		return m.tail
	}
	return m.ends[len(m.ends)-1]
}

// folded returns what the commits behind from up to to do.
func (m *model) folded(from, to int) []api.Write {
	return fold.Fold(slices.Concat(m.commits[from-m.tail : to-m.tail]...))
}

func (m *model) done(seq int) {
	for len(m.ends) > 0 && m.ends[0] <= seq {
		m.commits, m.tail, m.ends = m.commits[m.ends[0]-m.tail:], m.ends[0], m.ends[1:]
	}
}

func (m *model) queue() api.Queue {
	q := api.Queue{From: m.from(), To: m.to(), Open: m.folded(m.from(), m.to())}
	last := m.tail
	for _, end := range m.ends {
		q.Sets = append(q.Sets, set(last, end, m.folded(last, end)...))
		last = end
	}
	return q
}

func sample() []api.Vol {
	vs, _ := vols.Blank([]int{1, 5, 9, 12, 255, 1})
	return vs
}

func randomWrites(rnd *rand.Rand, n int) []api.Write {
	var ws []api.Write
	for range n {
		v := sample()[rnd.Intn(3)]
		ws = append(ws, write(v.ID, rnd.Intn(len(v.Blocks)), strconv.Itoa(rnd.Intn(10000))))
	}
	return ws
}

// P12.2 to P12.4: long rows of calls against commits that are kept one by one.
func TestAgainstCommits(t *testing.T) {
	rnd := rand.New(rand.NewSource(1))
	for range 60 {
		start := rnd.Intn(50)
		m := &model{tail: start}
		q, _ := queue.New(start)
		behind := sample()
		for range 80 {
			q, behind = step(t, rnd, m, q, behind)
			expectModel(t, m, q)
			expectEffect(t, m, q, behind)
		}
	}
}

// step makes one call; behind are the volumes at the tail.
func step(t *testing.T, rnd *rand.Rand, m *model, q api.Queue, behind []api.Vol) (api.Queue, []api.Vol) {
	t.Helper()
	switch rnd.Intn(6) {
	case 0:
		next, e := queue.Cut(q)
		if m.to() == m.from() {
			expectNone(t, "Cut", next, e, api.ErrNone)
			return q, behind
		}
		m.ends = append(m.ends, m.to())
		return next, behind
	case 1:
		seq := m.tail - 2 + rnd.Intn(m.to()-m.tail+5)
		next, e := queue.Done(q, seq)
		if e != api.OK {
			t.Fatalf("Done(%d) = %d", seq, e)
		}
		commits, tail := m.commits, m.tail
		m.done(seq)
		behind, _ = vols.Apply(behind, slices.Concat(commits[:m.tail-tail]...))
		return next, behind
	}
	ws := randomWrites(rnd, rnd.Intn(5))
	next, e := queue.Add(q, ws)
	if e != api.OK {
		t.Fatalf("Add = %d", e)
	}
	m.commits = append(m.commits, ws)
	return next, behind
}

func expectModel(t *testing.T, m *model, q api.Queue) {
	t.Helper()
	want := m.queue()
	if !same(q, want) || !queue.Right(q) || queue.Tail(q) != m.tail {
		t.Fatalf("%v, want %v", q, want)
	}
	size := fold.Bytes(want.Open)
	for _, s := range want.Sets {
		size += fold.Bytes(s.Writes)
	}
	if n, bytes := queue.Load(q); n != len(m.commits) || bytes != size {
		t.Fatalf("Load = %d, %d, want %d, %d", n, bytes, len(m.commits), size)
	}
	if all := queue.All(q); !slices.Equal(all, m.folded(m.tail, m.to())) {
		t.Fatalf("All = %v, want %v", all, m.folded(m.tail, m.to()))
	}
}

// P12.4: the sets one behind the other, and All at once, do what the commits do.
func expectEffect(t *testing.T, m *model, q api.Queue, behind []api.Vol) {
	t.Helper()
	want, _ := vols.Apply(behind, slices.Concat(m.commits...))
	got := behind
	for _, s := range q.Sets {
		got, _ = vols.Apply(got, s.Writes)
	}
	got, _ = vols.Apply(got, q.Open)
	if !vols.Same(got, want) {
		t.Fatalf("the sets lead to %v, want %v", got, want)
	}
	if got, _ = vols.Apply(behind, queue.All(q)); !vols.Same(got, want) {
		t.Fatalf("All leads to %v, want %v", got, want)
	}
}

// P12.4: the same commits, cut in every possible way.
func TestEveryWayToCut(t *testing.T) {
	rnd := rand.New(rand.NewSource(2))
	const n = 7
	var commits [][]api.Write
	for range n {
		commits = append(commits, randomWrites(rnd, 1+rnd.Intn(6)))
	}
	for cuts := range 1 << n {
		m := &model{tail: 4}
		q, _ := queue.New(4)
		for i, ws := range commits {
			q, _ = queue.Add(q, ws)
			m.commits = append(m.commits, ws)
			if cuts>>i&1 == 1 {
				q, _ = queue.Cut(q)
				m.ends = append(m.ends, m.to())
			}
		}
		expectModel(t, m, q)
		expectEffect(t, m, q, sample())
	}
}

// roomy is a queue whose lists have room behind their ends, with what must not be touched in it.
func roomy() (api.Queue, func() bool) {
	sets := []api.Set{set(1, 3, write(1, 0, "a")), set(3, 4, write(1, 1, "b")), set(99, 98, write(9, 9, "z")), set(97, 96)}
	writes := []api.Write{write(1, 1, "c"), write(2, 0, "d"), write(99, 99, "x"), write(98, 98, "y")}
	q := api.Queue{Sets: sets[:2], Open: writes[:2], From: 4, To: 6}
	before, beforeWrites := clone(api.Queue{Sets: sets}), slices.Clone(writes)
	return q, func() bool {
		return slices.EqualFunc(sets, before.Sets, sameSet) && slices.Equal(writes, beforeWrites)
	}
}

// R1: what was handed in stays as it was, and so does what lies behind it.
func TestArgumentsStay(t *testing.T) {
	q, unchanged := roomy()
	all := []api.Write{write(3, 0, "p"), write(1, 1, "q"), write(3, 0, "r"), write(0, 0, "s")}
	before := slices.Clone(all)
	for _, a := range []api.Queue{q, {Sets: q.Sets[:1], Open: q.Open[:1], From: 3, To: 9}, {Sets: q.Sets[1:], Open: q.Open[:0], From: 4, To: 5}} {
		added, _ := queue.Add(a, all[:3])
		queue.Add(a, nil)
		cut, _ := queue.Cut(a)
		for _, x := range []api.Queue{a, added, cut} {
			more, _ := queue.Add(x, all)
			queue.Cut(more)
			for seq := range 8 {
				done, _ := queue.Done(x, seq)
				again, _ := queue.Add(done, all[1:2])
				queue.Cut(again)
			}
			queue.Right(x)
			queue.Tail(x)
			queue.Load(x)
			queue.All(x)
		}
	}
	if !unchanged() || !slices.Equal(all, before) {
		t.Errorf("the arguments are changed: %v, %v", q, all)
	}
}

// R3 and R4: queues that come from the same one do not show what is done to each other.
func TestBranchesAreApart(t *testing.T) {
	base, _ := queue.New(0)
	for i := range 12 {
		base, _ = queue.Add(base, []api.Write{write(1, i, "x")})
		base, _ = queue.Cut(base)
		left, _ := queue.Add(base, []api.Write{write(2, 0, "l")})
		right, _ := queue.Add(base, []api.Write{write(2, 0, "r")})
		less, _ := queue.Done(base, i/2)
		left, _ = queue.Cut(left)
		want, wantLess := clone(left), clone(less)
		right, _ = queue.Cut(right)
		less, _ = queue.Add(less, []api.Write{write(2, 0, "d")})
		less, _ = queue.Cut(less)
		wantLess.Sets = append(wantLess.Sets, set(i+1, i+2, write(2, 0, "d")))
		wantLess.From, wantLess.To = i+2, i+2
		expect(t, "left", left, api.OK, want)
		expect(t, "less", less, api.OK, wantLess)
		if last := right.Sets[len(right.Sets)-1]; !sameSet(last, set(i+1, i+2, write(2, 0, "r"))) {
			t.Errorf("right ends with %v", last)
		}
	}
}

// R1: writes that were handed in are not retained, and those that All returns are new.
func TestWritesAreNew(t *testing.T) {
	for _, ws := range [][]api.Write{{write(1, 0, "a")}, {write(1, 0, "a"), write(1, 1, "b")}, {write(2, 0, "a"), write(1, 0, "b")}} {
		q, _ := queue.Add(at(3), ws)
		want := clone(q)
		for i := range ws {
			ws[i] = write(-1, -1, "spoilt")
		}
		cut, _ := queue.Cut(q)
		both, _ := queue.Add(cut, []api.Write{write(0, 0, "c")})
		for _, x := range []api.Queue{q, cut, both} {
			before := clone(x)
			all := queue.All(x)
			all = all[:cap(all)]
			for i := range all {
				all[i] = write(-1, -1, "spoilt")
			}
			expect(t, "after All", x, api.OK, before)
		}
		expect(t, "after Add", q, api.OK, want)
	}
}

// P1: many sets and many writes need no more than one pass each.
func TestLongQueue(t *testing.T) {
	const n = 100000
	q := at(0)
	for i := range n {
		q.Sets = append(q.Sets, set(i, i+1, write(1, i%7, strconv.Itoa(i)), write(2, i, "")))
	}
	q.From, q.To = n, n
	if k, size := queue.Load(q); k != n || size < 16*n || !queue.Right(q) || queue.Tail(q) != 0 {
		t.Errorf("Load = %d, %d", k, size)
	}
	if all := queue.All(q); len(all) != n+7 || !fold.Folded(all) {
		t.Errorf("All returns %d writes", len(all))
	}
	if half, e := queue.Done(q, n/2); e != api.OK || len(half.Sets) != n/2 || queue.Tail(half) != n/2 {
		t.Errorf("Done leaves %d sets, %d", len(half.Sets), e)
	}
	more, e := queue.Add(q, queue.All(q))
	if more, e = queue.Cut(more); e != api.OK || len(more.Sets) != n+1 || more.From != n+1 {
		t.Errorf("Cut leaves %d sets, %d", len(more.Sets), e)
	}
}
