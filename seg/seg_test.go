package seg_test

import (
	"encoding/binary"
	"fmt"
	"math"
	"math/rand"
	"slices"
	"strings"
	"testing"

	"counterfoil/api"
	"counterfoil/seg"
)

// The longest part, and the most pieces.
const (
	widest = 508
	most   = 65535
)

var wrongWidths = []int{math.MinInt, -widest, -1, 0, widest + 1, 510, 511, api.MaxPiece, api.MaxPiece + 1, 65536, math.MaxInt}

// A string of all kinds of bytes that is the same in each run.
func mixed(size int) string {
	b := make([]byte, size)
	rand.New(rand.NewSource(int64(size))).Read(b)
	return string(b)
}

// piece puts one together from the definition, whether it is right or not.
func piece(index, of int, part string) string {
	b := binary.BigEndian.AppendUint16(nil, uint16(index))
	return string(binary.BigEndian.AppendUint16(b, uint16(of))) + part
}

// parts splits s by the words of the definition, one part after the other.
func parts(s string, n int) []string {
	var l []string
	for len(s) > n {
		l = append(l, s[:n])
		s = s[n:]
	}
	return append(l, s)
}

func pieces(s string, n int) []string {
	split := parts(s, n)
	l := make([]string, len(split))
	for i, part := range split {
		l[i] = piece(i, len(split), part)
	}
	return l
}

func join(of int, have ...string) seg.Join { return seg.Join{Of: of, Have: have} }

// empty makes a state of so many empty parts.
func empty(of, have int) seg.Join { return join(of, make([]string, have)...) }

func same(a, b seg.Join) bool { return a.Of == b.Of && slices.Equal(a.Have, b.Have) }

// show tells of a state no more than fits into a line.
func show(j seg.Join) string {
	return fmt.Sprintf("{%d, %d parts %.60q}", j.Of, len(j.Have), j.Have[:min(len(j.Have), 6)])
}

func expectCut(t *testing.T, s string, n int) {
	t.Helper()
	want := pieces(s, n)
	if l, e := seg.Cut(s, n); !slices.Equal(l, want) || e != api.OK {
		t.Errorf("Cut of %d bytes by %d: %d pieces, %d, want %d pieces", len(s), n, len(l), e, len(want))
	}
}

func expectNoCut(t *testing.T, s string, n int, want api.Errno) {
	t.Helper()
	if l, e := seg.Cut(s, n); len(l) != 0 || e != want {
		t.Errorf("Cut of %d bytes by %d: %d pieces, %d, want error %d", len(s), n, len(l), e, want)
	}
}

// expectMore expects that more parts have to arrive.
func expectMore(t *testing.T, j seg.Join, p string, want seg.Join) seg.Join {
	t.Helper()
	got, s, ok, e := seg.Feed(j, p)
	if !same(got, want) || s != "" || ok || e != api.OK {
		t.Errorf("Feed(%s, %.20q) = %s, %d bytes, %v, %d, want %s", show(j), p, show(got), len(s), ok, e, show(want))
	}
	return got
}

// expectWhole expects that this is the last part of want.
func expectWhole(t *testing.T, j seg.Join, p string, want string) {
	t.Helper()
	got, s, ok, e := seg.Feed(j, p)
	if !same(got, seg.Join{}) || s != want || !ok || e != api.OK {
		t.Errorf("Feed(%s, %.20q) = %s, %d bytes, %v, %d, want %d bytes", show(j), p, show(got), len(s), ok, e, len(want))
	}
}

func expectNoFeed(t *testing.T, j seg.Join, p string, want api.Errno) {
	t.Helper()
	got, s, ok, e := seg.Feed(j, p)
	if !same(got, seg.Join{}) || s != "" || ok || e != want {
		t.Errorf("Feed(%s, %.20q) = %s, %d bytes, %v, %d, want error %d", show(j), p, show(got), len(s), ok, e, want)
	}
}

// states are such as Feed returns, and such as it never does.
func states() []seg.Join {
	return []seg.Join{
		{}, join(2, "a"), join(3, "a"), join(3, "a", "b"), join(300, "", ""), empty(most, most-1),
		join(2), join(1), join(1, "a"), join(2, "a", "b"), join(2, "a", "b", "c"), join(0, "a"),
		join(-1, "a"), join(-65534, "a"), join(65536), join(65538, "a"), join(math.MaxInt, "a"), join(math.MinInt),
		empty(65536, 65536), empty(2, 65537),
	}
}

// The chapter's example.
func TestExample(t *testing.T) {
	l, e := seg.Cut("abc", 2)
	if want := []string{"\x00\x00\x00\x02ab", "\x00\x01\x00\x02c"}; !slices.Equal(l, want) || e != api.OK {
		t.Fatalf("Cut = %q, %d", l, e)
	}
	expectNoFeed(t, seg.Join{}, l[1], api.ErrNone)
	expectWhole(t, expectMore(t, seg.Join{}, l[0], join(2, "ab")), l[1], "abc")
}

// P14.1: each length of a part, with strings around each number of full parts.
func TestCut(t *testing.T) {
	for n := 1; n <= widest; n++ {
		for _, size := range []int{0, 1, n - 1, n, n + 1, 2*n - 1, 2 * n, 2*n + 1, 7*n - 1, 7 * n, 7*n + 1} {
			expectCut(t, mixed(size), n)
		}
	}
	for _, n := range []int{1, 2, 3, 5, 255, 256, 507, widest} {
		for _, size := range []int{255 * n, 255*n + 1, 256 * n, 256*n + 1, 257*n + 1, 1000*n + 1} {
			expectCut(t, mixed(size), n)
		}
	}
	// Parts are of bytes, whatever characters they are.
	expectCut(t, "\u20ac\u20ac\xff\x00", 2)
	expectCut(t, strings.Repeat("\x00", 20), 3)
}

// P14.1: the most pieces, with the last part of every length that there is, and one piece more.
func TestCutLong(t *testing.T) {
	for _, n := range []int{1, 2, 3, widest - 1, widest} {
		s := strings.Repeat("s", most*n+2*n)
		for _, size := range []int{(most-1)*n + 1, most*n - 1, most * n} {
			expectCut(t, s[:size], n)
		}
		for _, size := range []int{most*n + 1, most*n + n, most*n + n + 1, most*n + 2*n} {
			expectNoCut(t, s[:size], n, api.ErrLong)
		}
	}
	expectNoCut(t, strings.Repeat("s", 65536*257+3), 257, api.ErrLong)
	expectNoCut(t, strings.Repeat("s", 2*65536+3), 1, api.ErrLong)
}

// P14.1: a wrong length of the parts comes ahead of a string that is too long.
func TestCutRefuses(t *testing.T) {
	for _, n := range wrongWidths {
		for _, s := range []string{"", "x", mixed(600), strings.Repeat("s", 70000), strings.Repeat("s", 66000*widest)} {
			expectNoCut(t, s, n, api.ErrArg)
		}
	}
}

// P14.2: fewer than four bytes, whatever has arrived before.
func TestFeedShort(t *testing.T) {
	for _, j := range states() {
		for _, p := range []string{"", "\x00", "\x00\x00", "\x00\x00\x00", "\x00\x01\x00", "\xff\xff\xff", "abc"} {
			expectNoFeed(t, j, p, api.ErrShort)
		}
	}
}

// P14.2: an index that is not less than the number of pieces, even if it is that of the next part.
func TestFeedForm(t *testing.T) {
	numbers := []int{0, 1, 2, 3, 127, 128, 255, 256, 257, 32767, 32768, 65279, 65280, most - 1, most}
	for _, j := range states() {
		for _, of := range numbers {
			for _, index := range append(numbers, len(j.Have)) {
				if index >= of && index <= most {
					expectNoFeed(t, j, piece(index, of, ""), api.ErrForm)
					expectNoFeed(t, j, piece(index, of, "part"), api.ErrForm)
				}
			}
		}
	}
}

// P14.2: an index that is not that of the next part, or another number of pieces than that of the first one.
func TestFeedNone(t *testing.T) {
	for _, c := range []struct {
		j         seg.Join
		index, of int
	}{
		{seg.Join{}, 1, 2},
		{seg.Join{}, most - 1, most},
		{join(3, "a"), 2, 3},
		{join(3, "a", "b"), 1, 3},
		{join(9, "a", "b"), 1, 9},
		{join(9, "a", "b"), 3, 9},
		{join(9, "a", "b"), 8, 9},
		{join(3, "a"), 1, 2},
		{join(3, "a"), 1, 4},
		{join(3, "a"), 1, 259},
		{join(3, "a"), 1, 3 << 8},
		{join(3, "a"), 2, 4},
		{join(600, "a"), 257, 600},
		{join(600, "a"), 256, 600},
		{empty(600, 257), 1, 600},
		{empty(600, 256), 1, 600},
		{empty(most, most-1), most - 2, most},
		{empty(most-1, most-1), most - 1, most},
		{join(2), 1, 2},
		{join(0, "a"), 1, 2},
		{join(-65534, "a"), 1, 2},
		{join(65538, "a"), 1, 2},
		{join(math.MaxInt, "a"), 1, most},
		{empty(2, 65537), 1, 2},
	} {
		expectNoFeed(t, c.j, piece(c.index, c.of, ""), api.ErrNone)
		expectNoFeed(t, c.j, piece(c.index, c.of, "part"), api.ErrNone)
	}
}

// P14.2: a piece with index 0 starts a new string, whatever has arrived before.
func TestFeedFirst(t *testing.T) {
	for _, j := range states() {
		for _, part := range []string{"", "p", mixed(widest), mixed(2000)} {
			for _, of := range []int{2, 3, 255, 256, 300, most} {
				expectMore(t, j, piece(0, of, part), join(of, part))
			}
			expectWhole(t, j, piece(0, 1, part), part)
		}
	}
}

// P14.2: the next part is appended, whatever its length.
func TestFeedNext(t *testing.T) {
	for _, part := range []string{"", "p", "pp", mixed(widest), mixed(widest + 1), mixed(70000)} {
		expectMore(t, join(3, "a"), piece(1, 3, part), join(3, "a", part))
		expectWhole(t, join(3, "a", "bc"), piece(2, 3, part), "abc"+part)
		expectWhole(t, join(2, ""), piece(1, 2, part), part)
		expectMore(t, empty(600, 256), piece(256, 600, part), join(600, append(make([]string, 256), part)...))
		expectMore(t, empty(most, most-2), piece(most-2, most, part), join(most, append(make([]string, most-2), part)...))
		expectWhole(t, empty(most, most-1), piece(most-1, most, part), part)
	}
}

// P14.2: all pieces and states of a few parts, by the words of the promise.
func TestFeedSmall(t *testing.T) {
	letters := []string{"a", "b", "c", "d"}
	for stateOf := -1; stateOf <= 5; stateOf++ {
		for have := range len(letters) + 1 {
			j := join(stateOf, letters[:have]...)
			for of := range 6 {
				for index := range 6 {
					feedSmall(t, j, index, of)
				}
			}
		}
	}
}

func feedSmall(t *testing.T, j seg.Join, index, of int) {
	t.Helper()
	p := piece(index, of, "x")
	have := append(slices.Clone(j.Have), "x")
	if index == 0 {
		have = []string{"x"}
	}
	switch {
	case index >= of:
		expectNoFeed(t, j, p, api.ErrForm)
	case index != 0 && (index != len(j.Have) || of != j.Of):
		expectNoFeed(t, j, p, api.ErrNone)
	case len(have) == of:
		expectWhole(t, j, p, strings.Join(have, ""))
	default:
		expectMore(t, j, p, join(of, have...))
	}
}

// feedAll feeds the pieces of s in order, and expects s from the last one and from none before.
func feedAll(t *testing.T, j seg.Join, s string, n int) {
	t.Helper()
	l, e := seg.Cut(s, n)
	if e != api.OK {
		t.Fatalf("Cut of %d bytes by %d: %d", len(s), n, e)
	}
	have := parts(s, n)
	for i, p := range l[:len(l)-1] {
		j = expectMore(t, j, p, join(len(l), have[:i+1]...))
	}
	expectWhole(t, j, l[len(l)-1], s)
}

// P14.3: strings of many lengths, in parts of many lengths, after anything.
func TestRoundTrip(t *testing.T) {
	for _, n := range []int{1, 2, 3, 7, 100, 255, 256, 507, widest} {
		for _, size := range []int{0, 1, 2, n - 1, n, n + 1, 5 * n, 299*n + 1} {
			feedAll(t, seg.Join{}, mixed(size), n)
		}
	}
	for _, j := range states() {
		feedAll(t, j, mixed(1000), widest)
		feedAll(t, j, "", 1)
	}
}

// P14.3: pieces of other strings, lost, doubled and out of order, and other bytes come before.
func TestAfterAnything(t *testing.T) {
	rnd := rand.New(rand.NewSource(1))
	seen := map[api.Errno]int{}
	for range 2000 {
		j := seg.Join{}
		for range rnd.Intn(12) {
			p := mixed(rnd.Intn(6))
			if rnd.Intn(5) > 0 {
				of := 1 + rnd.Intn(4)
				p = piece(rnd.Intn(of), of, mixed(rnd.Intn(4)))
			}
			var e api.Errno
			j, _, _, e = seg.Feed(j, p)
			seen[e]++
		}
		feedAll(t, j, mixed(rnd.Intn(40)), 1+rnd.Intn(12))
	}
	for _, e := range []api.Errno{api.OK, api.ErrShort, api.ErrForm, api.ErrNone} {
		if seen[e] < 100 {
			t.Errorf("error %d came only %d times", e, seen[e])
		}
	}
}

// P14.2: a piece that is missing, or that comes twice, ends the string.
func TestBrokenRows(t *testing.T) {
	l, _ := seg.Cut("abcdef", 2)
	j := expectMore(t, seg.Join{}, l[0], join(3, "ab"))
	expectNoFeed(t, j, l[2], api.ErrNone)
	two := expectMore(t, j, l[1], join(3, "ab", "cd"))
	expectNoFeed(t, two, l[1], api.ErrNone)
	expectMore(t, two, l[0], join(3, "ab"))
	// Without its beginning, the rest of a string is of no use.
	for _, p := range l[1:] {
		expectNoFeed(t, seg.Join{}, p, api.ErrNone)
	}
}

// R1: one state goes on in several ways, and none of them changes it or another one.
func TestStatesStay(t *testing.T) {
	have := make([]string, 0, 8)
	have = append(have, "a", "b", "behind")
	j := join(4, have[:2]...)
	first := expectMore(t, j, piece(2, 4, "c"), join(4, "a", "b", "c"))
	second := expectMore(t, j, piece(2, 4, "d"), join(4, "a", "b", "d"))
	expectWhole(t, first, piece(3, 4, "e"), "abce")
	expectWhole(t, second, piece(3, 4, "f"), "abdf")
	expectNoFeed(t, first, piece(1, 4, "e"), api.ErrNone)
	expectMore(t, first, piece(0, 4, "z"), join(4, "z"))
	if !slices.Equal(have, []string{"a", "b", "behind"}) || !same(j, join(4, "a", "b")) {
		t.Errorf("the state is changed: %q, %s", have, show(j))
	}
	if !same(first, join(4, "a", "b", "c")) || !same(second, join(4, "a", "b", "d")) {
		t.Errorf("the states share memory: %s, %s", show(first), show(second))
	}
	first.Have[0] = "changed"
	if j.Have[0] != "a" || second.Have[0] != "a" {
		t.Errorf("the states share memory: %s, %s, %s", show(j), show(first), show(second))
	}
}

// R1: what was handed out can be changed without any later answer changing.
func TestPiecesStay(t *testing.T) {
	l, _ := seg.Cut("abc", 1)
	l[0], l[1], l[2] = "x", "y", "z"
	expectCut(t, "abc", 1)
}

// P14.3: a long string in many pieces.
func TestLongRow(t *testing.T) {
	s := mixed(3000*widest + 1)
	l, _ := seg.Cut(s, widest)
	j := seg.Join{}
	for i, p := range l[:len(l)-1] {
		var ok bool
		var e api.Errno
		if j, _, ok, e = seg.Feed(j, p); ok || e != api.OK {
			t.Fatalf("piece %d of %d: %v, %d", i, len(l), ok, e)
		}
	}
	expectWhole(t, j, l[len(l)-1], s)
}
