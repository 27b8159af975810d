package lag_test

import (
	"math"
	"math/rand"
	"slices"
	"strings"
	"testing"

	"counterfoil/api"
	"counterfoil/fold"
	"counterfoil/lag"
	"counterfoil/queue"
)

const most = api.MaxNum

func write(vol, block int, data string) api.Write {
	return api.Write{Vol: vol, Block: block, Data: data}
}

func bound(txns, bytes int, hold bool) api.Bound {
	return api.Bound{Txns: txns, Bytes: bytes, Hold: hold}
}

func set(from, to int, ws ...api.Write) api.Set { return api.Set{From: from, To: to, Writes: ws} }

// open makes a queue of one open set.
func open(from, to int, ws ...api.Write) api.Queue {
	return api.Queue{From: from, To: to, Open: ws}
}

// behind makes a queue of closed sets with an open one behind them, which must end at to.
func behind(sets []api.Set, to int, ws ...api.Write) api.Queue {
	return api.Queue{Sets: sets, From: sets[len(sets)-1].To, To: to, Open: ws}
}

// sized returns one write of this size, which is at least 8.
func sized(size int) []api.Write {
	return []api.Write{write(9, 0, strings.Repeat("x", size-8))}
}

// expect asks with both values of Hold.
func expect(t *testing.T, name string, txns, bytes int, q api.Queue, ws []api.Write, within bool) {
	t.Helper()
	want := map[bool]int{true: lag.Refuse, false: lag.Spill}
	for hold, beyond := range want {
		if within {
			beyond = lag.Take
		}
		if got := lag.Judge(bound(txns, bytes, hold), q, ws); got != beyond {
			t.Errorf("%s: Judge with %d commits, %d bytes, Hold %v = %d, want %d", name, txns, bytes, hold, got, beyond)
		}
	}
}

func wrongBounds() []api.Bound {
	var bs []api.Bound
	for _, n := range []int{math.MinInt, -most, -1, 0, most + 1, 1 << 41, math.MaxInt} {
		for _, hold := range []bool{false, true} {
			bs = append(bs, bound(n, 1, hold), bound(1, n, hold), bound(n, most, hold), bound(most, n, hold), bound(n, n, hold))
		}
	}
	return bs
}

func wrongQueues() map[string]api.Queue {
	a, b := write(1, 0, "a"), write(1, 1, "b")
	early := behind([]api.Set{set(1, 3)}, 7)
	early.From--
	return map[string]api.Queue{
		"at -1":               open(-1, -1),
		"at 2^40 + 1":         open(most+1, most+1),
		"at the greatest int": open(math.MaxInt, math.MaxInt),
		"To below From":       open(2, 1),
		"To 2^40 + 1":         open(0, most+1, a),
		"of all ints":         open(math.MinInt, math.MaxInt, a),
		"writes of no commit": open(0, 0, a),
		"unfolded":            open(0, 2, b, a),
		"unfolded, closed":    behind([]api.Set{set(1, 3, a, a)}, 4, a),
		"a set of no commit":  behind([]api.Set{set(3, 3)}, 4),
		"a gap":               behind([]api.Set{set(1, 3), set(4, 5)}, 6),
		"From ahead of a set": early,
		"a set from -1":       behind([]api.Set{set(-1, 3)}, 4),
	}
}

// The numbers that the chapter gives.
func TestConstants(t *testing.T) {
	if lag.Take != 1 || lag.Refuse != 2 || lag.Spill != 3 {
		t.Errorf("Take %d, Refuse %d, Spill %d", lag.Take, lag.Refuse, lag.Spill)
	}
}

// P13.1.
func TestRight(t *testing.T) {
	for _, txns := range []int{1, 2, 999, 1 << 32, most - 1, most} {
		for _, bytes := range []int{1, 2, 999, 1 << 32, most - 1, most} {
			if !lag.Right(bound(txns, bytes, false)) || !lag.Right(bound(txns, bytes, true)) {
				t.Errorf("Right of %d commits, %d bytes is false", txns, bytes)
			}
		}
	}
	for _, b := range wrongBounds() {
		if lag.Right(b) {
			t.Errorf("Right(%v) is true", b)
		}
	}
	if lag.Right(api.Bound{}) {
		t.Errorf("Right of no bound is true")
	}
}

// P13.1: nothing is judged by a wrong bound or for a wrong queue, whether or not there would be room.
func TestWrongArguments(t *testing.T) {
	a := write(1, 0, "a")
	queues := []api.Queue{{}, open(3, 3), open(3, 9, a), behind([]api.Set{set(1, 3, a)}, 4, a), open(0, most, a)}
	for _, b := range append(wrongBounds(), api.Bound{}) {
		for _, q := range queues {
			expectNothing(t, "a wrong bound", b, q)
		}
	}
	bounds := []api.Bound{bound(1, 1, false), bound(1, 1, true), bound(most, most, false), bound(most, most, true), bound(0, 0, true)}
	for name, q := range wrongQueues() {
		for _, b := range bounds {
			expectNothing(t, name, b, q)
		}
	}
}

func expectNothing(t *testing.T, name string, b api.Bound, q api.Queue) {
	t.Helper()
	for _, ws := range [][]api.Write{nil, {write(1, 0, "a")}, sized(5000)} {
		if got := lag.Judge(b, q, ws); got != 0 {
			t.Errorf("%s: Judge(%v, %v, %d writes) = %d", name, b, q, len(ws), got)
		}
	}
}

// P13.1: the commits that wait, in closed sets and in the open one, and one more.
func TestCommits(t *testing.T) {
	a, b := write(1, 0, "a"), write(1, 1, "b")
	for _, x := range []struct {
		name string
		q    api.Queue
		n    int
	}{
		{"the zero queue", api.Queue{}, 0},
		{"nothing behind 7", open(7, 7), 0},
		{"nothing behind 2^40", open(most, most), 0},
		{"an open commit", open(7, 8, a), 1},
		{"open commits", open(7, 12, a), 5},
		{"open, without writes", open(7, 12), 5},
		{"fewer commits than writes", open(7, 8, a, b), 1},
		{"closed", behind([]api.Set{set(7, 12, a)}, 12), 5},
		{"closed twice", behind([]api.Set{set(7, 8, a), set(8, 12)}, 12), 5},
		{"closed and open", behind([]api.Set{set(7, 8, a), set(8, 10, a)}, 12, a), 5},
		{"many", open(0, most-1, a), most - 1},
	} {
		for _, ws := range [][]api.Write{nil, {}, {a}, {a, b}} {
			for _, txns := range []int{1, 2, x.n - 1, x.n, x.n + 1, x.n + 2, most} {
				if txns >= 1 && txns <= most {
					expect(t, x.name, txns, most, x.q, ws, txns >= x.n+1)
				}
			}
		}
	}
	// One commit more than these is more than any bound allows.
	expect(t, "the most commits", most, most, open(0, most), nil, false)
	expect(t, "the most commits, closed", most, most, behind([]api.Set{set(0, most)}, most), nil, false)
}

// P13.1: the bytes that wait, in closed sets and in the open one, and those of the commit.
func TestBytes(t *testing.T) {
	a, b, e := write(1, 0, "a"), write(1, 1, "bb"), write(1, 2, "")
	queues := []struct {
		name string
		q    api.Queue
		size int
	}{
		{"the zero queue", api.Queue{}, 0},
		{"without writes", open(7, 9), 0},
		{"an empty block", open(7, 9, e), 8},
		{"open", open(7, 9, a, b), 19},
		{"closed", behind([]api.Set{set(7, 9, a, b)}, 9), 19},
		{"closed and open", behind([]api.Set{set(7, 8, b), set(8, 9, e)}, 10, a), 27},
		{"a block in each set", behind([]api.Set{set(7, 8, a), set(8, 9, a)}, 10, a), 27},
		{"runes", open(7, 9, write(1, 0, "\u20ac")), 11},
	}
	commits := []struct {
		ws   []api.Write
		size int
	}{
		{nil, 0},
		{[]api.Write{}, 0},
		{[]api.Write{e}, 8},
		{[]api.Write{a}, 9},
		{[]api.Write{b, a}, 19},
		{[]api.Write{a, a, a}, 27},
		{[]api.Write{write(1, 0, "\u20ac")}, 11},
		{[]api.Write{write(math.MinInt, -1, "longer than a block"), write(math.MaxInt, math.MaxInt, "")}, 35},
		{sized(70000), 70000},
	}
	for _, x := range queues {
		for _, c := range commits {
			sum := x.size + c.size
			for _, bytes := range []int{1, x.size, c.size, sum - 1, sum, sum + 1, most} {
				if bytes >= 1 {
					expect(t, x.name, most, bytes, x.q, c.ws, bytes >= sum)
				}
			}
		}
	}
}

// P13.1: both conditions have to hold.
func TestEitherBound(t *testing.T) {
	q, ws := open(3, 5, write(1, 0, "a")), sized(10)
	expect(t, "both just enough", 3, 19, q, ws, true)
	expect(t, "too many commits", 2, 19, q, ws, false)
	expect(t, "too many bytes", 3, 18, q, ws, false)
	expect(t, "too many of both", 2, 18, q, ws, false)
	expect(t, "commits for bytes", 19, 3, q, ws, false)
	expect(t, "beyond already, nothing added", 1, 1, q, nil, false)
}

// The chapter's example.
func TestExample(t *testing.T) {
	q, _ := queue.New(0)
	for i, want := range []int{lag.Take, lag.Take, lag.Spill} {
		ws := []api.Write{write(1, i, "a")}
		if got := lag.Judge(bound(2, 100, false), q, ws); got != want {
			t.Errorf("commit %d: Judge = %d, want %d", i+1, got, want)
		}
		if want == lag.Take {
			q, _ = queue.Add(q, ws)
		}
	}
	expect(t, "a third commit", 2, 100, q, sized(9), false)
}

func randomWrites(rnd *rand.Rand) []api.Write {
	var ws []api.Write
	for range rnd.Intn(5) {
		ws = append(ws, write(1+rnd.Intn(2), rnd.Intn(4), strings.Repeat("x", rnd.Intn(9))))
	}
	return ws
}

// P13.2: with commits that come, sets that are cut and sets that arrive, the queue never leaves the bound.
func TestStaysWithin(t *testing.T) {
	rnd := rand.New(rand.NewSource(1))
	seen := map[int]int{}
	for range 200 {
		b := bound(1+rnd.Intn(12), 1+rnd.Intn(300), rnd.Intn(2) == 0)
		q, _ := queue.New(rnd.Intn(50))
		for range 80 {
			var verdict int
			q, verdict = step(rnd, b, q)
			seen[verdict]++
			if n, size := queue.Load(q); n > b.Txns || size > b.Bytes {
				t.Fatalf("%d commits of %d bytes wait, beyond %v", n, size, b)
			}
		}
	}
	if seen[lag.Take] < 1000 || seen[lag.Refuse] < 1000 || seen[lag.Spill] < 1000 {
		t.Errorf("too few of a kind: %v", seen)
	}
}

// step adds a commit only if it is taken.
func step(rnd *rand.Rand, b api.Bound, q api.Queue) (api.Queue, int) {
	switch rnd.Intn(8) {
	case 0:
		if cut, e := queue.Cut(q); e == api.OK {
			return cut, 0
		}
	case 1:
		done, _ := queue.Done(q, queue.Tail(q)+rnd.Intn(4))
		return done, 0
	}
	ws := randomWrites(rnd)
	verdict := lag.Judge(b, q, ws)
	if verdict == lag.Take {
		q, _ = queue.Add(q, ws)
	}
	return q, verdict
}

// P13.1 and P13.2: what is taken is also taken with fewer commits and fewer bytes waiting, by all small numbers.
func TestFewerWaiting(t *testing.T) {
	const commits, blocks = 5, 3
	for txns := 1; txns <= commits+1; txns++ {
		for bytes := 1; bytes <= 8*blocks+17; bytes++ {
			for n := range commits + 1 {
				for k := range blocks + 1 {
					if n > 0 || k == 0 {
						within := n+1 <= txns && 8*k+9 <= bytes
						expect(t, "small", txns, bytes, waiting(n, k), sized(9), within)
					}
				}
			}
		}
	}
}

// waiting is a queue of n commits that write k empty blocks.
func waiting(n, k int) api.Queue {
	q := open(4, 4+n)
	for i := range k {
		q.Open = append(q.Open, write(1, i, ""))
	}
	return q
}

// R1: what was handed in stays as it was, and so does what lies behind it.
func TestArgumentsStay(t *testing.T) {
	sets := []api.Set{set(1, 3, write(1, 0, "a")), set(3, 4, write(1, 1, "b")), set(99, 98, write(9, 9, "z"))}
	closed := [][]api.Write{slices.Clone(sets[0].Writes), slices.Clone(sets[1].Writes)}
	writes := []api.Write{write(1, 1, "c"), write(2, 0, "d"), write(99, 99, "x")}
	ws := []api.Write{write(3, 0, "p"), write(1, 1, "q"), write(3, 0, "r")}
	opened, commit := slices.Clone(writes), slices.Clone(ws)
	q := behind(sets[:2], 6, writes[:2]...)
	for n := 1; n < 60; n++ {
		lag.Judge(bound(n, n, n%2 == 0), q, ws[:2])
	}
	if !slices.Equal(writes, opened) || !slices.Equal(ws, commit) {
		t.Errorf("the writes are changed: %v, %v", writes, ws)
	}
	if !slices.Equal(sets[0].Writes, closed[0]) || !slices.Equal(sets[1].Writes, closed[1]) || sets[2].From != 99 {
		t.Errorf("the sets are changed: %v", sets)
	}
}

// P1: long queues and long commits are counted as a whole.
func TestLongQueue(t *testing.T) {
	const n = 50000
	var sets []api.Set
	var ws []api.Write
	for i := range n {
		sets = append(sets, set(i, i+1, write(1, i, "a")))
		ws = append(ws, write(1, 0, "a"))
	}
	q := behind(sets, n+1, write(1, 0, "a"))
	size := fold.Bytes(ws)
	expect(t, "long", n+2, 2*size+9, q, ws, true)
	expect(t, "long, one commit too many", n+1, 2*size+9, q, ws, false)
	expect(t, "long, one byte too many", n+2, 2*size+8, q, ws, false)
}
