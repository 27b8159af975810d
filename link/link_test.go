package link_test

import (
	"encoding/binary"
	"fmt"
	"hash/crc32"
	"math"
	"math/rand"
	"slices"
	"strings"
	"testing"

	"counterfoil/api"
	"counterfoil/link"
)

const (
	limit    = 1 << 40 // the greatest number
	longest  = 512     // bytes of a piece
	mostWait = 64      // pieces that wait
	inFlight = 4       // pieces that are in flight
)

var wrongNums = []int{math.MinInt, -limit, -1, 0, limit + 1, 1 << 41, math.MaxInt}

// words are the integers of a packet.
type words struct {
	from, to, number, want uint64
}

// seal puts a frame together from the definition, whatever it holds.
func seal(kind byte, w words, behind string) string {
	var body []byte
	for _, n := range []uint64{w.from, w.to, w.number, w.want} {
		body = binary.BigEndian.AppendUint64(body, n)
	}
	return wrap(kind, string(body)+behind)
}

func wrap(kind byte, body string) string {
	b := binary.BigEndian.AppendUint16([]byte{kind}, uint16(len(body)))
	b = append(b, body...)
	return string(binary.BigEndian.AppendUint32(b, crc32.ChecksumIEEE(b)))
}

func dataOf(x link.End, number int, piece string) string {
	return seal(1, words{uint64(x.Epoch), uint64(x.Other), uint64(number), uint64(x.Want)}, piece)
}

func ackOf(x link.End) string {
	return seal(2, words{uint64(x.Epoch), uint64(x.Other), 0, uint64(x.Want)}, "")
}

func end(epoch, other, first, want int, out ...string) link.End {
	return link.End{Epoch: epoch, Other: other, First: first, Out: out, Want: want}
}

func same(a, b link.End) bool {
	return a.Epoch == b.Epoch && a.Other == b.Other && a.First == b.First && a.Want == b.Want && slices.Equal(a.Out, b.Out)
}

func clone(x link.End) link.End {
	x.Out = slices.Clone(x.Out)
	return x
}

// show tells of an endpoint no more than fits into a line.
func show(x link.End) string {
	return fmt.Sprintf("{%d %d, %d on: %d pieces %.40q, want %d}", x.Epoch, x.Other, x.First, len(x.Out), x.Out[:min(len(x.Out), 6)], x.Want)
}

func row(n int) []string {
	l := make([]string, n)
	for i := range l {
		l[i] = fmt.Sprint("p", i)
	}
	return l
}

// A string of all kinds of bytes that is the same in each run.
func mixed(size int) string {
	b := make([]byte, size)
	rand.New(rand.NewSource(int64(size))).Read(b)
	return string(b)
}

func expectPut(t *testing.T, x link.End, piece string, want link.End, packet string) link.End {
	t.Helper()
	before := clone(x)
	got, s, e := link.Put(x, piece)
	if !same(got, want) || s != packet || e != api.OK {
		t.Errorf("Put(%s, %.20q) = %s, %q, %d, want %s, %q", show(x), piece, show(got), s, e, show(want), packet)
	}
	if !same(x, before) {
		t.Errorf("Put changed %s to %s", show(before), show(x))
	}
	return got
}

func expectNoPut(t *testing.T, x link.End, piece string, want api.Errno) {
	t.Helper()
	got, s, e := link.Put(x, piece)
	if !same(got, link.End{}) || s != "" || e != want {
		t.Errorf("Put(%s, %.20q) = %s, %q, %d, want error %d", show(x), piece, show(got), s, e, want)
	}
}

func expectTick(t *testing.T, x link.End, want ...string) {
	t.Helper()
	before := clone(x)
	if l := link.Tick(x); !slices.Equal(l, want) {
		t.Errorf("Tick(%s) = %q, want %q", show(x), l, want)
	}
	if !same(x, before) {
		t.Errorf("Tick changed %s to %s", show(before), show(x))
	}
}

func expectTake(t *testing.T, x link.End, packet string, want link.End, came link.Came) link.End {
	t.Helper()
	before := clone(x)
	got, c := link.Take(x, packet)
	if !same(got, want) || c != came {
		t.Errorf("Take(%s, %.60q) = %s, %+v, want %s, %+v", show(x), packet, show(got), c, show(want), came)
	}
	if !same(x, before) {
		t.Errorf("Take changed %s to %s", show(before), show(x))
	}
	return got
}

func expectIgnored(t *testing.T, x link.End, packet string) {
	t.Helper()
	expectTake(t, x, packet, x, link.Came{})
}

// valid are endpoints of all kinds, and invalid ones that miss one condition.
func valid() []link.End {
	return []link.End{
		end(1, 0, 1, 1), end(limit, limit, limit, limit), end(1, limit, 1, 1), end(5, 6, 7, 8, "", "a"),
		end(1, 1, 1, 1, row(mostWait)...), end(1, 1, 1, 1, mixed(longest), "", mixed(longest)),
		end(1, 0, limit, 1, row(mostWait)...), end(2, 3, limit-2, 9, "a", "b", "c"),
	}
}

func invalid() []link.End {
	l := []link.End{
		{}, end(0, 0, 1, 1), end(1, 0, 0, 1), end(1, 0, 1, 0), end(1, 0, 0, 1, "a"),
		end(1, 1, 1, 1, row(mostWait+1)...), end(1, 1, 1, 1, row(mostWait+2)...), end(1, 1, 1, 1, row(1000)...),
		end(1, 1, 1, 1, mixed(longest+1)), end(1, 1, 1, 1, "a", "b", "c", "d", "e", mixed(longest+1)),
		end(1, 1, 1, 1, append(row(mostWait-1), mixed(70000))...), end(1, 0, limit+1, 1),
	}
	for _, n := range wrongNums {
		l = append(l, end(n, 1, 1, 1, "a"), end(1, 1, n, 1, "a"), end(1, 1, 1, n, "a"))
		if n != 0 {
			l = append(l, end(1, n, 1, 1, "a"))
		}
	}
	return l
}

// The chapter's example.
func TestExample(t *testing.T) {
	a, e := link.New(1)
	if e != api.OK {
		t.Fatalf("New(1): %d", e)
	}
	b, e := link.New(2)
	if e != api.OK {
		t.Fatalf("New(2): %d", e)
	}
	first := seal(1, words{1, 0, 1, 1}, "a")
	a = expectPut(t, a, "a", end(1, 0, 1, 1, "a"), first)
	answer := seal(2, words{2, 1, 0, 1}, "")
	b = expectTake(t, b, first, end(2, 1, 1, 1), link.Came{Reply: answer})
	a = expectTake(t, a, answer, end(1, 2, 1, 1, "a"), link.Came{})
	second := seal(1, words{1, 2, 1, 1}, "a")
	expectTick(t, a, second)
	answer = seal(2, words{2, 1, 0, 2}, "")
	b = expectTake(t, b, second, end(2, 1, 1, 2), link.Came{Piece: "a", Has: true, Reply: answer})
	expectTake(t, b, second, b, link.Came{Reply: answer})
	expectTake(t, a, answer, end(1, 2, 2, 1), link.Came{})
}

// P15.1: each condition of a valid endpoint, on both sides of its edge.
func TestRight(t *testing.T) {
	for _, x := range valid() {
		if !link.Right(x) {
			t.Errorf("Right(%s) is false", show(x))
		}
	}
	for _, x := range invalid() {
		if link.Right(x) {
			t.Errorf("Right(%s) is true", show(x))
		}
	}
}

// P15.1: a new endpoint knows of nothing.
func TestNew(t *testing.T) {
	for _, epoch := range []int{1, 2, 77, 1 << 32, limit - 1, limit} {
		x, e := link.New(epoch)
		if !same(x, end(epoch, 0, 1, 1)) || e != api.OK {
			t.Errorf("New(%d) = %s, %d", epoch, show(x), e)
		}
	}
	for _, epoch := range wrongNums {
		x, e := link.New(epoch)
		if !same(x, link.End{}) || e != api.ErrArg {
			t.Errorf("New(%d) = %s, %d, want ErrArg", epoch, show(x), e)
		}
	}
}

// P15.1: an invalid endpoint sends and takes nothing, and ErrArg comes ahead of the other errors.
func TestInvalid(t *testing.T) {
	for _, x := range invalid() {
		for _, piece := range []string{"", "a", mixed(longest), mixed(longest + 1)} {
			expectNoPut(t, x, piece, api.ErrArg)
		}
		expectTick(t, x)
		for _, from := range []uint64{1, 2, limit} {
			w := words{from, uint64(x.Epoch), 1, 1}
			expectIgnored(t, x, seal(1, w, "a"))
			expectIgnored(t, x, seal(2, words{from, uint64(x.Epoch), 0, uint64(x.First + 1)}, ""))
			expectIgnored(t, x, seal(1, words{from, 9, 1, 1}, "a"))
		}
		expectIgnored(t, x, "")
	}
}

// P15.2: the first four waiting pieces are sent at once, the others wait; then there is no room.
func TestPut(t *testing.T) {
	for _, x := range []link.End{end(1, 0, 1, 1), end(3, 9, 200, 70), end(limit, limit, limit-mostWait+1, limit)} {
		first := x.First
		for i, piece := range row(mostWait) {
			want := clone(x)
			want.Out = append(want.Out, piece)
			packet := ""
			if i < inFlight {
				packet = dataOf(x, first+i, piece)
			}
			x = expectPut(t, x, piece, want, packet)
			var flight []string
			for k, s := range x.Out[:min(len(x.Out), inFlight)] {
				flight = append(flight, dataOf(x, first+k, s))
			}
			expectTick(t, x, flight...)
		}
		expectNoPut(t, x, "a", api.ErrFull)
		expectNoPut(t, x, "", api.ErrFull)
		expectNoPut(t, x, mixed(longest+1), api.ErrLong)
	}
}

// P15.2: pieces of every length, and too long ones.
func TestPutLengths(t *testing.T) {
	x := end(7, 8, 300, 9)
	for size := range longest + 1 {
		piece := mixed(size)
		packet := dataOf(x, 300, piece)
		y := expectPut(t, x, piece, end(7, 8, 300, 9, piece), packet)
		expectTick(t, y, packet)
	}
	for _, size := range []int{longest + 1, longest + 2, 1024, 4064, 4065, 65535, 65536, 65536 + longest} {
		expectNoPut(t, x, strings.Repeat("s", size), api.ErrLong)
	}
}

// P15.2: the last piece has the number 2^40, although an endpoint may have waiting pieces beyond it.
func TestPutNumbers(t *testing.T) {
	x := end(1, 1, limit, 1)
	y := expectPut(t, x, "a", end(1, 1, limit, 1, "a"), dataOf(x, limit, "a"))
	expectNoPut(t, y, "b", api.ErrFull)
	expectNoPut(t, y, mixed(longest+1), api.ErrLong)
	x = end(1, 1, limit-5, 1, row(5)...)
	y = expectPut(t, x, "a", end(1, 1, limit-5, 1, append(row(5), "a")...), "")
	expectNoPut(t, y, "b", api.ErrFull)
	x = end(1, 1, limit, 1, row(6)...)
	expectNoPut(t, x, "b", api.ErrFull)
	expectTick(t, x, dataOf(x, limit, "p0"), dataOf(x, limit+1, "p1"), dataOf(x, limit+2, "p2"), dataOf(x, limit+3, "p3"))
}

// P15.2: without a waiting piece nothing is sent.
func TestTickNothing(t *testing.T) {
	for _, x := range []link.End{end(1, 0, 1, 1), end(limit, limit, limit, limit), end(3, 4, 5, 6)} {
		expectTick(t, x)
	}
}

// P15.3: what is not a frame, or a frame that is not a packet.
func TestNotPackets(t *testing.T) {
	const wide = 1 << 63
	good := words{6, 5, 8, 8}
	ack := words{6, 5, 0, 8}
	l := []string{
		"", "x", mixed(39), wrap(1, ""), wrap(2, ""), wrap(1, mixed(31)), wrap(2, strings.Repeat("\x00", 31)),
		seal(0, good, ""), seal(3, good, "a"), seal(3, ack, ""), seal(0, ack, ""), seal(255, ack, ""), seal(129, good, "a"), seal(130, ack, ""),
		seal(1, good, mixed(longest+1)), seal(1, good, mixed(longest+2)), seal(1, good, mixed(4096-32)),
		seal(2, ack, "a"), seal(2, ack, "\x00"), seal(2, ack, mixed(longest)), seal(2, ack, mixed(longest+1)),
		seal(2, good, ""), seal(2, words{6, 5, 1, 8}, ""), seal(2, words{6, 5, 1 << 62, 8}, ""), seal(2, good, "a"),
		seal(1, good, "a") + "x", seal(2, ack, "") + "\x00",
	}
	for _, n := range []uint64{wide, wide + 5, math.MaxUint64} {
		l = append(l, seal(1, words{n, 5, 8, 8}, "a"), seal(1, words{6, n, 8, 8}, "a"), seal(1, words{6, 5, n, 8}, "a"), seal(1, words{6, 5, 8, n}, "a"),
			seal(2, words{n, 5, 0, 8}, ""), seal(2, words{6, n, 0, 8}, ""), seal(2, words{6, 5, n, 8}, ""), seal(2, words{6, 5, 0, n}, ""))
	}
	for _, packet := range l {
		for _, x := range []link.End{end(5, 6, 7, 8, "a", "b"), end(5, 0, 7, 8, "a", "b"), end(5, 4, 8, 8), end(1, 0, 1, 1)} {
			expectIgnored(t, x, packet)
		}
	}
	// Each of them has a neighbour that is a packet.
	x := end(5, 6, 7, 8, "a", "b")
	for _, packet := range []string{seal(1, good, ""), seal(1, good, mixed(longest)), seal(2, ack, "")} {
		if got, _ := link.Take(x, packet); same(got, x) {
			t.Errorf("Take(%s, %.60q) did nothing", show(x), packet)
		}
	}
}

// P15.3: a packet of which one bit is changed or the end is missing is none.
func TestBrokenPackets(t *testing.T) {
	x := end(5, 6, 7, 8, "a", "b")
	for _, packet := range []string{seal(1, words{6, 5, 8, 8}, "piece"), seal(2, words{6, 5, 0, 9}, "")} {
		for i := range len(packet) {
			expectIgnored(t, x, packet[:i])
			for bit := range 8 {
				b := []byte(packet)
				b[i] ^= 1 << bit
				expectIgnored(t, x, string(b))
			}
		}
	}
}

// P15.3: the sender's Epoch is a number, and none of its earlier ones.
func TestSenders(t *testing.T) {
	for _, x := range []link.End{end(5, 6, 7, 8, "a"), end(5, limit, 7, 8, "a"), end(5, 1, 7, 8, "a"), end(5, 0, 7, 8, "a")} {
		for _, from := range []uint64{0, limit + 1, 1 << 62, math.MaxInt64, uint64(max(x.Other, 1) - 1), uint64(x.Other) / 2} {
			if int(from) >= max(x.Other, 1) && from <= limit {
				continue
			}
			expectIgnored(t, x, seal(1, words{from, 5, 8, 8}, "p"))
			expectIgnored(t, x, seal(1, words{from, 4, 8, 8}, "p"))
			expectIgnored(t, x, seal(2, words{from, 5, 0, 8}, ""))
			expectIgnored(t, x, seal(2, words{from, 0, 0, 8}, ""))
		}
	}
	x := end(5, limit, 7, 8, "a")
	y := end(5, limit, 8, 9)
	expectTake(t, x, seal(1, words{limit, 5, 8, 8}, "p"), y, link.Came{Piece: "p", Has: true, Reply: ackOf(y)})
}

// P15.3, step 1: the first Epoch that is heard of leaves the waiting pieces alone; a greater one drops them.
func TestEpochs(t *testing.T) {
	met := end(5, 3, 7, 1, "a", "b")
	expectTake(t, end(5, 0, 7, 8, "a", "b"), seal(1, words{3, 4, 8, 8}, "p"), met, link.Came{Reply: ackOf(met)})
	expectTake(t, end(5, 0, 7, 8, "a", "b"), seal(2, words{3, 0, 0, 8}, ""), met, link.Came{Reply: ackOf(met)})
	got := end(5, 3, 8, 2, "b")
	expectTake(t, end(5, 0, 7, 8, "a", "b"), seal(1, words{3, 5, 1, 8}, "p"), got, link.Came{Piece: "p", Has: true, Reply: ackOf(got)})
	for _, other := range []int{1, 2, limit - 1} {
		x := end(5, other, 7, 8, "a", "b")
		now := end(5, other+1, 1, 1)
		expectTake(t, x, seal(1, words{uint64(other) + 1, 4, 1, 1}, "p"), now, link.Came{Reply: ackOf(now), Anew: true})
		expectTake(t, x, seal(2, words{uint64(other) + 1, 6, 0, 7}, ""), now, link.Came{Reply: ackOf(now), Anew: true})
		expectTake(t, x, seal(2, words{uint64(other) + 1, 5, 0, 7}, ""), now, link.Came{Anew: true})
		expectTake(t, x, seal(2, words{uint64(other) + 1, 5, 0, 2}, ""), now, link.Came{Anew: true})
		two := end(5, other+1, 1, 2)
		expectTake(t, x, seal(1, words{uint64(other) + 1, 5, 1, 1}, "p"), two, link.Came{Piece: "p", Has: true, Reply: ackOf(two), Anew: true})
		expectTake(t, x, seal(1, words{uint64(other) + 1, 5, 8, 8}, "p"), now, link.Came{Reply: ackOf(now), Anew: true})
	}
}

// P15.3, step 2: a packet for another epoch of this endpoint only tells of the sender.
func TestOtherEpochs(t *testing.T) {
	x := end(5, 6, 7, 8, "a", "b")
	for _, to := range []uint64{0, 1, 4, 6, limit, limit + 1, math.MaxInt64} {
		for _, want := range []uint64{7, 8, 9} {
			expectTake(t, x, seal(1, words{6, to, 8, want}, "p"), x, link.Came{Reply: ackOf(x)})
			expectTake(t, x, seal(2, words{6, to, 0, want}, ""), x, link.Came{Reply: ackOf(x)})
		}
	}
}

// P15.3, step 3: a Want that lies among the waiting pieces or just behind them removes those before it.
func TestWants(t *testing.T) {
	for _, n := range []int{0, 1, 2, 5, mostWait} {
		x := end(5, 6, 100, 8, row(n)...)
		for want := range 200 {
			y := clone(x)
			if want >= 100 && want <= 100+n {
				y.First, y.Out = want, y.Out[want-100:]
			}
			expectTake(t, x, seal(2, words{6, 5, 0, uint64(want)}, ""), y, link.Came{})
			expectTake(t, x, seal(1, words{6, 5, 3, uint64(want)}, "p"), y, link.Came{Reply: ackOf(y)})
		}
		for _, want := range []uint64{0, 1<<32 + 100, limit, limit + 1, math.MaxInt64} {
			expectTake(t, x, seal(2, words{6, 5, 0, want}, ""), x, link.Came{})
		}
	}
}

// P15.3, step 3: behind the last number, the endpoint is no longer valid; the packet has all of its effect.
func TestLastNumber(t *testing.T) {
	x := end(5, 6, limit, 8, "a")
	y := expectTake(t, x, seal(2, words{6, 5, 0, limit + 1}, ""), end(5, 6, limit+1, 8), link.Came{})
	expectNoPut(t, y, "b", api.ErrArg)
	expectIgnored(t, y, seal(1, words{6, 5, 8, limit + 1}, "p"))
	z := end(5, 6, limit+1, 9)
	expectTake(t, x, seal(1, words{6, 5, 8, limit + 1}, "p"), z, link.Came{Piece: "p", Has: true, Reply: ackOf(z)})
	expectTake(t, x, seal(2, words{6, 5, 0, limit}, ""), x, link.Came{})
	many := end(5, 6, limit, 8, "a", "b", "c")
	expectTake(t, many, seal(2, words{6, 5, 0, limit + 2}, ""), end(5, 6, limit+2, 8, "c"), link.Came{})
}

// P15.3, step 4: only the piece that is expected is delivered, and none with the number 2^40.
func TestDelivery(t *testing.T) {
	for _, want := range []int{1, 2, 255, 256, limit - 1, limit} {
		x := end(5, 6, 7, want, "a", "b")
		for _, number := range []uint64{0, 1, 2, 3, uint64(want - 1), uint64(want), uint64(want + 1), uint64(want + 1<<32), limit, math.MaxInt64} {
			for _, piece := range []string{"", "p", mixed(longest)} {
				y, c := x, link.Came{}
				if number == uint64(want) && want < limit {
					y.Want++
					c.Piece, c.Has = piece, true
				}
				c.Reply = ackOf(y)
				expectTake(t, x, seal(1, words{6, 5, number, 0}, piece), y, c)
			}
		}
	}
}

// P15.3: pieces of every length arrive as they were put.
func TestLengths(t *testing.T) {
	for size := range longest + 1 {
		piece := mixed(size)
		_, packet, _ := link.Put(end(6, 5, 8, 7), piece)
		y := end(5, 6, 7, 9)
		expectTake(t, end(5, 6, 7, 8), packet, y, link.Came{Piece: piece, Has: true, Reply: ackOf(y)})
	}
}

// take follows the words of P15.3, for a packet and an endpoint that is valid.
func take(x link.End, kind byte, w words, piece string) (link.End, link.Came) {
	from, to, number, want := int(w.from), int(w.to), int(w.number), int(w.want)
	var c link.Came
	if from < 1 || from > limit || from < x.Other {
		return x, c
	}
	if from > x.Other {
		c.Anew = x.Other > 0
		x.Other = from
		x.Want = 1
	}
	if c.Anew {
		x.Out = nil
		x.First = 1
	}
	if to != x.Epoch {
		c.Reply = ackOf(x)
		return x, c
	}
	if want <= x.First+len(x.Out) {
		for x.First < want {
			x.Out = x.Out[1:]
			x.First++
		}
	}
	if kind == 2 {
		return x, c
	}
	if number == x.Want && x.Want != limit {
		c.Piece = piece
		c.Has = true
		x.Want++
	}
	c.Reply = ackOf(x)
	return x, c
}

// P15.3: all small packets at all small endpoints.
func TestTakeSmall(t *testing.T) {
	letters := []string{"a", "b", "c"}
	for epoch := 1; epoch <= 2; epoch++ {
		for other := range 4 {
			for first := 1; first <= 3; first++ {
				for n := range 4 {
					for want := 1; want <= 3; want++ {
						takeSmall(t, end(epoch, other, first, want, letters[:n]...))
					}
				}
			}
		}
	}
}

func takeSmall(t *testing.T, x link.End) {
	t.Helper()
	for from := range uint64(5) {
		for to := range uint64(4) {
			for want := range uint64(8) {
				for number := range uint64(5) {
					w := words{from, to, number, want}
					y, c := take(x, 1, w, "p")
					expectTake(t, x, seal(1, w, "p"), y, c)
				}
				w := words{from, to, 0, want}
				y, c := take(x, 2, w, "")
				expectTake(t, x, seal(2, w, ""), y, c)
			}
		}
	}
}

// R1: several endpoints that were made from one have pieces of their own.
func TestEndsStay(t *testing.T) {
	out := append(make([]string, 0, 9), "a", "b", "behind")
	x := end(5, 6, 7, 8, out[:2]...)
	first := expectPut(t, x, "c", end(5, 6, 7, 8, "a", "b", "c"), dataOf(x, 9, "c"))
	second := expectPut(t, x, "d", end(5, 6, 7, 8, "a", "b", "d"), dataOf(x, 9, "d"))
	fewer := expectTake(t, first, seal(2, words{6, 5, 0, 8}, ""), end(5, 6, 8, 8, "b", "c"), link.Came{})
	expectPut(t, fewer, "e", end(5, 6, 8, 8, "b", "c", "e"), dataOf(x, 10, "e"))
	expectPut(t, first, "f", end(5, 6, 7, 8, "a", "b", "c", "f"), dataOf(x, 10, "f"))
	if !slices.Equal(out, []string{"a", "b", "behind"}) || !same(second, end(5, 6, 7, 8, "a", "b", "d")) {
		t.Errorf("the pieces are changed: %q, %s", out, show(second))
	}
	if l := link.Tick(first); len(l) == 3 {
		l[0], l[1], l[2] = "x", "y", "z"
	}
	expectTick(t, first, dataOf(x, 7, "a"), dataOf(x, 8, "b"), dataOf(x, 9, "c"))
}

// party is one side of a simulated connection.
type party struct {
	x         link.End
	put, came []string
	inbox     []string // packets on their way to it, in any order
}

// send puts packets on their way, where they may be lost, doubled or corrupted.
func send(rnd *rand.Rand, to *party, l ...string) {
	for _, packet := range l {
		switch rnd.Intn(8) {
		case 0:
		case 1:
			to.inbox = append(to.inbox, packet, packet)
		case 2:
			b := []byte(packet)
			b[rnd.Intn(len(b))] ^= 1 << rnd.Intn(8)
			to.inbox = append(to.inbox, string(b))
		default:
			to.inbox = append(to.inbox, packet)
		}
	}
}

// receive lets p take a packet, and returns the reply to it, if there is one.
func receive(p *party, packet string) []string {
	var c link.Came
	p.x, c = link.Take(p.x, packet)
	if c.Has {
		p.came = append(p.came, c.Piece)
	}
	if c.Reply == "" {
		return nil
	}
	return []string{c.Reply}
}

// stir lets one thing happen, on either side.
func stir(t *testing.T, rnd *rand.Rand, p, other *party) {
	t.Helper()
	switch rnd.Intn(10) {
	case 0:
		piece := fmt.Sprint("piece ", len(p.put))
		x, packet, e := link.Put(p.x, piece)
		if e == api.ErrFull {
			return
		}
		if e != api.OK {
			t.Fatalf("Put(%s): %d", show(p.x), e)
		}
		p.x, p.put = x, append(p.put, piece)
		if packet != "" {
			send(rnd, other, packet)
		}
	case 1:
		send(rnd, other, link.Tick(p.x)...)
	default:
		if len(p.inbox) == 0 {
			return
		}
		i := rnd.Intn(len(p.inbox))
		packet := p.inbox[i]
		// Some of them stay, and arrive again much later.
		if rnd.Intn(10) > 0 {
			p.inbox = slices.Delete(p.inbox, i, i+1)
		}
		send(rnd, other, receive(p, packet)...)
	}
}

func expectPrefix(t *testing.T, came, put []string) {
	t.Helper()
	if len(came) > len(put) || !slices.Equal(came, put[:len(came)]) {
		t.Fatalf("%d pieces came that are not the first ones of %d: %q", len(came), len(put), came)
	}
}

// finish lets the first packet of each Tick arrive, and the reply to it: one tick a piece, and one to learn of each other.
func finish(p, other *party) {
	for range len(p.x.Out) + 1 {
		for _, packet := range link.Tick(p.x)[:min(len(p.x.Out), 1)] {
			for _, reply := range receive(other, packet) {
				receive(p, reply)
			}
		}
	}
}

// P15.4: whatever happens to packets, the pieces that come are the first ones that were put; in the end all of them come.
func TestNetwork(t *testing.T) {
	for seed := range int64(60) {
		rnd := rand.New(rand.NewSource(seed))
		x, _ := link.New(1 + rnd.Intn(3))
		y, _ := link.New(1 + rnd.Intn(3))
		a, b := &party{x: x}, &party{x: y}
		for range 3000 {
			p, other := a, b
			if rnd.Intn(2) == 0 {
				p, other = b, a
			}
			stir(t, rnd, p, other)
			expectPrefix(t, a.came, b.put)
			expectPrefix(t, b.came, a.put)
		}
		if len(a.came) < 50 || len(b.came) < 50 {
			t.Errorf("seed %d: only %d and %d pieces came", seed, len(a.came), len(b.came))
		}
		finish(a, b)
		finish(b, a)
		if !slices.Equal(a.came, b.put) || !slices.Equal(b.came, a.put) {
			t.Errorf("seed %d: %d of %d and %d of %d pieces came", seed, len(a.came), len(b.put), len(b.came), len(a.put))
		}
	}
}

// P15.4: if only the first packet of each Tick arrives, and the reply to it, all pieces are delivered.
func TestFirstOfEachTick(t *testing.T) {
	for _, n := range []int{1, inFlight, inFlight + 1, mostWait} {
		x, _ := link.New(4)
		y, _ := link.New(9)
		for _, piece := range row(n) {
			x, _, _ = link.Put(x, piece)
		}
		a, b := &party{x: x}, &party{x: y}
		finish(a, b)
		if !slices.Equal(b.came, row(n)) || !same(a.x, end(4, 9, n+1, 1)) || !same(b.x, end(9, 4, 1, n+1)) {
			t.Errorf("%d pieces: %q came, %s, %s", n, b.came, show(a.x), show(b.x))
		}
	}
}
