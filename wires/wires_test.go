package wires_test

import (
	"fmt"
	"math"
	"math/rand"
	"slices"
	"strings"
	"testing"

	"counterfoil/api"
	"counterfoil/frame"
	"counterfoil/wires"
)

const (
	most    = 256  // packets in transit
	longest = 4103 // bytes of a packet
)

var (
	wrongSites   = []int{math.MinInt, -2, -1, 2, 3, 1 << 32, 1<<32 + 1, math.MaxInt}
	wrongIndexes = []int{math.MinInt, -most, -2, -1}
)

func packet(to int, data string) wires.Packet { return wires.Packet{To: to, Data: data} }

func list(l ...wires.Packet) []wires.Packet { return l }

// row makes n packets, each of which differs from all others.
func row(n int) []wires.Packet {
	l := make([]wires.Packet, n)
	for i := range l {
		l[i] = packet(i%2, fmt.Sprint("packet ", i))
	}
	return l
}

// with returns n packets, the one with index k being p.
func with(n, k int, p wires.Packet) []wires.Packet {
	l := row(n)
	l[k] = p
	return l
}

// show tells of a list no more than fits into a line.
func show(l []wires.Packet) string {
	var s strings.Builder
	fmt.Fprintf(&s, "%d packets", len(l))
	for _, p := range l[:min(len(l), 5)] {
		fmt.Fprintf(&s, " {%d %.20q}", p.To, p.Data)
	}
	return s.String()
}

func expect(t *testing.T, name string, got []wires.Packet, e api.Errno, want []wires.Packet) {
	t.Helper()
	if e != api.OK || !slices.Equal(got, want) {
		t.Errorf("%s: %s, %d, want %s", name, show(got), e, show(want))
	}
	if !wires.Right(got) {
		t.Errorf("%s: %s is not valid", name, show(got))
	}
}

func expectNone(t *testing.T, name string, got []wires.Packet, e api.Errno, want api.Errno) {
	t.Helper()
	if e != want || len(got) != 0 {
		t.Errorf("%s: %s, %d, want error %d", name, show(got), e, want)
	}
}

func expectTaken(t *testing.T, name string, l []wires.Packet, k int, rest []wires.Packet) {
	t.Helper()
	p := l[k]
	got, taken, e := wires.Take(l, k)
	expect(t, name, got, e, rest)
	if taken != p {
		t.Errorf("%s: the packet is %s, want %s", name, show(list(taken)), show(list(p)))
	}
}

func expectNotTaken(t *testing.T, name string, l []wires.Packet, k int, want api.Errno) {
	t.Helper()
	got, p, e := wires.Take(l, k)
	expectNone(t, name, got, e, want)
	if p != (wires.Packet{}) {
		t.Errorf("%s: the packet is %s beside an error", name, show(list(p)))
	}
}

func rightLists() map[string][]wires.Packet {
	full := strings.Repeat("x", longest)
	return map[string][]wires.Packet{
		"nil":             nil,
		"empty":           {},
		"to site 0":       list(packet(0, "a")),
		"to site 1":       list(packet(1, "a")),
		"no data":         list(packet(0, ""), packet(1, "")),
		"the same twice":  list(packet(1, "a"), packet(1, "a")),
		"the longest":     list(packet(0, full)),
		"255 packets":     row(most - 1),
		"256 packets":     row(most),
		"256 of one kind": make([]wires.Packet, most),
		"the first long":  with(most, 0, packet(1, full)),
		"the last long":   with(most, most-1, packet(1, full)),
		"all long":        slices.Repeat(list(packet(1, full)), most),
		"no text":         list(packet(0, "\x00\xff\xfe")),
	}
}

func wrongLists() map[string][]wires.Packet {
	over := strings.Repeat("x", longest+1)
	wrong := map[string][]wires.Packet{
		"257 packets":         row(most + 1),
		"257 of one kind":     make([]wires.Packet, most+1),
		"512 packets":         row(2 * most),
		"too long":            list(packet(0, over)),
		"too long, to site 1": list(packet(1, over)),
		"far too long":        list(packet(1, strings.Repeat("x", 1<<16+1))),
		"the first too long":  with(9, 0, packet(1, over)),
		"the fifth too long":  with(9, 4, packet(0, over)),
		"the last too long":   with(9, 8, packet(1, over)),
		"the 256th too long":  with(most, most-1, packet(1, over)),
	}
	for _, to := range wrongSites {
		for _, k := range []int{0, 1, 4, 8} {
			wrong[fmt.Sprintf("to %d at %d", to, k)] = with(9, k, packet(to, "a"))
		}
		wrong[fmt.Sprint("alone to ", to)] = list(packet(to, ""))
		wrong[fmt.Sprint("the 256th to ", to)] = with(most, most-1, packet(to, "a"))
		wrong[fmt.Sprint("too long to ", to)] = list(packet(to, over))
	}
	return wrong
}

// P16.1: at most 256 packets, each to site 0 or 1 and with at most 4103 bytes.
func TestRight(t *testing.T) {
	for name, l := range rightLists() {
		if !wires.Right(l) {
			t.Errorf("%s: not valid", name)
		}
	}
	for name, l := range wrongLists() {
		if wires.Right(l) {
			t.Errorf("%s: valid", name)
		}
	}
}

// P16.1: the longest packet has room for the longest frame.
func TestRightLongestFrame(t *testing.T) {
	f, e := frame.Seal(1, strings.Repeat("x", api.MaxBody))
	if e != api.OK || len(f) != longest {
		t.Fatalf("a frame of %d bytes, %d", len(f), e)
	}
	got, e := wires.Send(nil, packet(1, f))
	expect(t, "the longest frame", got, e, list(packet(1, f)))
}

// P16.1: all other functions return ErrArg first if l is not valid.
func TestWrongList(t *testing.T) {
	over := strings.Repeat("x", longest+1)
	for name, l := range wrongLists() {
		for _, p := range list(packet(0, "a"), packet(0, over), packet(2, "a"), packet(2, over)) {
			got, e := wires.Send(l, p)
			expectNone(t, "Send, "+name, got, e, api.ErrArg)
		}
		for _, k := range []int{-1, 0, len(l) - 1, len(l), math.MaxInt, math.MinInt} {
			expectNotTaken(t, "Take, "+name, l, k, api.ErrArg)
			got, e := wires.Twice(l, k)
			expectNone(t, "Twice, "+name, got, e, api.ErrArg)
			for _, at := range []int{-1, 0, longest + 1} {
				got, e := wires.Turn(l, k, at, 1)
				expectNone(t, "Turn, "+name, got, e, api.ErrArg)
			}
		}
	}
}

// P16.2: Send appends the packet.
func TestSend(t *testing.T) {
	sent := list(packet(0, ""), packet(1, ""), packet(0, "a"), packet(1, "\x00\xff"), packet(1, strings.Repeat("x", longest)))
	for name, l := range rightLists() {
		if len(l) == most {
			continue
		}
		for _, p := range sent {
			got, e := wires.Send(l, p)
			expect(t, "Send, "+name, got, e, slices.Concat(l, list(p)))
		}
	}
	l := row(0)
	for i, p := range row(most) {
		var e api.Errno
		l, e = wires.Send(l, p)
		expect(t, fmt.Sprint("Send of packet ", i), l, e, row(i+1))
	}
}

// P16.2: ErrArg for the destination comes first, then ErrLong, then ErrFull.
func TestSendErrors(t *testing.T) {
	for _, n := range []int{0, 1, most - 1, most} {
		for length, e := range map[int]api.Errno{0: api.OK, longest: api.OK, longest + 1: api.ErrLong, 1 << 16: api.ErrLong, 1<<16 + 1: api.ErrLong} {
			data := strings.Repeat("x", length)
			for _, to := range wrongSites {
				got, e := wires.Send(row(n), packet(to, data))
				expectNone(t, fmt.Sprintf("%d bytes to %d behind %d", length, to, n), got, e, api.ErrArg)
			}
			if e == api.OK && n == most {
				e = api.ErrFull
			}
			for to := range 2 {
				if got, said := wires.Send(row(n), packet(to, data)); said != e || e != api.OK && len(got) != 0 {
					t.Errorf("%d bytes to %d behind %d: %s, %d, want %d", length, to, n, show(got), said, e)
				}
			}
		}
	}
}

// P16.2: Take returns the other packets, in order, and the packet with that index.
func TestTake(t *testing.T) {
	for _, n := range []int{1, 2, 3, 7, most - 1, most} {
		for k := range n {
			l := row(n)
			rest := slices.Concat(row(n)[:k], row(n)[k+1:])
			expectTaken(t, fmt.Sprintf("packet %d of %d", k, n), l, k, rest)
		}
	}
	l := list(packet(1, "a"), packet(0, "a"), packet(1, "a"))
	expectTaken(t, "of three alike", l, 1, list(packet(1, "a"), packet(1, "a")))
}

// P16.2: Twice appends a copy, and keeps the packet at its index.
func TestTwice(t *testing.T) {
	for _, n := range []int{1, 2, 3, 7, most - 1} {
		for k := range n {
			got, e := wires.Twice(row(n), k)
			expect(t, fmt.Sprintf("packet %d of %d", k, n), got, e, append(row(n), row(n)[k]))
		}
	}
	full := strings.Repeat("x", longest)
	got, e := wires.Twice(list(packet(0, full)), 0)
	expect(t, "the longest", got, e, list(packet(0, full), packet(0, full)))
}

// P16.2: Turn XORs one byte, and leaves the packet at its index.
func TestTurn(t *testing.T) {
	for by := range 256 {
		for old := range 256 {
			data := string([]byte{'a', byte(old), 'b'})
			got, e := wires.Turn(list(packet(1, data)), 0, 1, byte(by))
			expect(t, fmt.Sprintf("%d by %d", old, by), got, e, list(packet(1, string([]byte{'a', byte(old ^ by), 'b'}))))
		}
	}
	for _, n := range []int{1, 2, 3, most} {
		for k := range n {
			for at := range len("packet 0") {
				data := []byte(row(n)[k].Data)
				data[at] ^= 5
				got, e := wires.Turn(row(n), k, at, 5)
				expect(t, fmt.Sprintf("byte %d of packet %d of %d", at, k, n), got, e, with(n, k, packet(k%2, string(data))))
			}
		}
	}
	full := strings.Repeat("x", longest)
	got, e := wires.Turn(list(packet(0, full)), 0, longest-1, 1)
	expect(t, "the last byte", got, e, list(packet(0, full[1:]+"y")))
	got, e = wires.Turn(list(packet(0, full)), 0, 0, 1)
	expect(t, "the first byte", got, e, list(packet(0, "y"+full[1:])))
}

// P16.2: ErrNone, ahead of every other error, if there is no packet with that index.
func TestNone(t *testing.T) {
	for _, n := range []int{0, 1, 2, most - 1, most} {
		for _, k := range append(slices.Clone(wrongIndexes), n, n+1, most+1, 1<<32, math.MaxInt) {
			name := fmt.Sprintf("packet %d of %d", k, n)
			expectNotTaken(t, "Take, "+name, row(n), k, api.ErrNone)
			got, e := wires.Twice(row(n), k)
			expectNone(t, "Twice, "+name, got, e, api.ErrNone)
			for _, at := range []int{math.MinInt, -1, 0, longest, math.MaxInt} {
				got, e := wires.Turn(row(n), k, at, 1)
				expectNone(t, "Turn, "+name, got, e, api.ErrNone)
			}
		}
	}
}

// P16.2: Twice returns ErrFull if 256 packets are in transit.
func TestTwiceFull(t *testing.T) {
	for _, k := range []int{0, 1, most - 1} {
		got, e := wires.Twice(row(most), k)
		expectNone(t, fmt.Sprint("Twice ", k), got, e, api.ErrFull)
	}
}

// P16.2: Turn returns ErrArg if Data has no byte at that index.
func TestTurnNoByte(t *testing.T) {
	for _, length := range []int{0, 1, 2, 8, longest} {
		l := with(3, 1, packet(1, strings.Repeat("x", length)))
		for _, at := range []int{math.MinInt, -length - 1, -1, length, length + 1, longest, 1 << 32, math.MaxInt} {
			if at >= 0 && at < length {
				continue
			}
			got, e := wires.Turn(l, 1, at, 1)
			expectNone(t, fmt.Sprintf("byte %d of %d", at, length), got, e, api.ErrArg)
			got, e = wires.Turn(l, 1, at, 0)
			expectNone(t, fmt.Sprintf("byte %d of %d by 0", at, length), got, e, api.ErrArg)
		}
	}
}

// sent is a packet by the words of the promises: what was sent, and by what its bytes were turned since.
type sent struct {
	to     int
	data   string
	turned map[int]byte
}

func (s sent) packet() wires.Packet {
	b := []byte(s.data)
	for at, by := range s.turned {
		b[at] ^= by
	}
	return packet(s.to, string(b))
}

func (s sent) turn(at int, by byte) sent {
	turned := map[int]byte{at: by}
	for k, v := range s.turned {
		turned[k] ^= v
	}
	s.turned = turned
	return s
}

func packets(l []sent) []wires.Packet {
	got := []wires.Packet{}
	for _, s := range l {
		got = append(got, s.packet())
	}
	return got
}

// P16.3: whatever was called, what is in transit and what is taken is what was sent, except for the bytes that were turned.
func TestTransit(t *testing.T) {
	r := rand.New(rand.NewSource(16))
	for range 60 {
		var l []wires.Packet
		var want []sent
		for i := range 300 {
			k, call := r.Intn(len(want)+1), r.Intn(4)
			switch {
			case call == 0 || k == len(want) || call == 1 && r.Intn(2) == 0:
				s := sent{to: r.Intn(2), data: strings.Repeat("ab", r.Intn(4)) + fmt.Sprint(i)}
				got, e := wires.Send(l, packet(s.to, s.data))
				want = append(want, s)
				expect(t, "Send", got, e, packets(want))
				l = got
			case call == 1:
				got, p, e := wires.Take(l, k)
				if p != want[k].packet() {
					t.Errorf("Take: %s, want %s", show(list(p)), show(packets(want[k:k+1])))
				}
				want = slices.Delete(want, k, k+1)
				expect(t, "Take", got, e, packets(want))
				l = got
			case call == 2:
				got, e := wires.Twice(l, k)
				want = append(want, want[k])
				expect(t, "Twice", got, e, packets(want))
				l = got
			default:
				at, by := r.Intn(len(want[k].data)), byte(r.Intn(256))
				got, e := wires.Turn(l, k, at, by)
				want[k] = want[k].turn(at, by)
				expect(t, "Turn", got, e, packets(want))
				l = got
			}
			if t.Failed() {
				return
			}
		}
	}
}

// calls are those that change a list of at least three and at most 255 packets.
func calls() map[string]func(l []wires.Packet) []wires.Packet {
	return map[string]func(l []wires.Packet) []wires.Packet{
		"Send": func(l []wires.Packet) []wires.Packet { got, _ := wires.Send(l, packet(1, "new")); return got },
		"Send another": func(l []wires.Packet) []wires.Packet {
			got, _ := wires.Send(l, packet(0, "other"))
			return got
		},
		"Take the first":  func(l []wires.Packet) []wires.Packet { got, _, _ := wires.Take(l, 0); return got },
		"Take the second": func(l []wires.Packet) []wires.Packet { got, _, _ := wires.Take(l, 1); return got },
		"Take the last":   func(l []wires.Packet) []wires.Packet { got, _, _ := wires.Take(l, len(l)-1); return got },
		"Twice":           func(l []wires.Packet) []wires.Packet { got, _ := wires.Twice(l, 1); return got },
		"Turn":            func(l []wires.Packet) []wires.Packet { got, _ := wires.Turn(l, 1, 0, 1); return got },
		"Turn by 0":       func(l []wires.Packet) []wires.Packet { got, _ := wires.Turn(l, 1, 0, 0); return got },
	}
}

// P16.3: no call changes another packet, nor a list that was passed or returned before (R1).
func TestApart(t *testing.T) {
	for first, f := range calls() {
		for second, g := range calls() {
			for _, room := range []int{0, 1, 9} {
				l := append(make([]wires.Packet, 0, 5+room), row(5)...)
				a := f(l)
				once := slices.Clone(a)
				g(l)
				g(a)
				f(l)
				if !slices.Equal(l, row(5)) || !slices.Equal(a, once) {
					t.Errorf("%s, then %s: %s and %s, want %s and %s", first, second, show(l), show(a), show(row(5)), show(once))
				}
				if behind := l[:cap(l)][5:]; !slices.Equal(behind, make([]wires.Packet, len(behind))) {
					t.Errorf("%s, then %s: written behind the list: %s", first, second, show(behind))
				}
			}
		}
	}
}

// The chapter's example: two packets are sent, and the first one is taken.
func TestExample(t *testing.T) {
	l, e := wires.Send(nil, packet(1, "a"))
	expect(t, "the first", l, e, list(packet(1, "a")))
	l, e = wires.Send(l, packet(0, "b"))
	expect(t, "the second", l, e, list(packet(1, "a"), packet(0, "b")))
	expectTaken(t, "Take", l, 0, list(packet(0, "b")))
}
