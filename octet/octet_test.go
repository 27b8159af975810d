package octet_test

import (
	"encoding/binary"
	"math"
	"slices"
	"strings"
	"testing"

	"counterfoil/api"
	"counterfoil/octet"
)

var wrongWidths = []int{math.MinInt, -8, -1, 0, 9, 10, 64, math.MaxInt}

// The widths' edges: what just fits, what just does not, and what lies beside.
func edgeNumbers() []int {
	l := []int{0, 1, 2, 127, 300, 1<<40 - 1, 1 << 40, 1<<40 + 1, math.MaxInt - 1, math.MaxInt}
	for width := 1; width < 8; width++ {
		top := 1 << (8 * width)
		l = append(l, top/2-1, top/2, top-2, top-1, top, top+1)
	}
	slices.Sort(l)
	return slices.Compact(l)
}

func fits(n, width int) bool {
	return n >= 0 && (width == 8 || n < 1<<(8*width))
}

// The standard library's encoding, to hold ours against.
func bigEndian(n, width int) string {
	var b [8]byte
	binary.BigEndian.PutUint64(b[:], uint64(n))
	return string(b[8-width:])
}

// P1.1: every width, with what fits and what does not.
func TestPut(t *testing.T) {
	for _, n := range edgeNumbers() {
		for width := 1; width <= 8; width++ {
			want, wantErr := "", api.ErrRange
			if fits(n, width) {
				want, wantErr = bigEndian(n, width), api.OK
			}
			if s, e := octet.Put(n, width); s != want || e != wantErr {
				t.Errorf("Put(%d, %d) = %q, %d, want %q, %d", n, width, s, e, want, wantErr)
			}
		}
	}
}

// P1.1: bytes that are written out by hand.
func TestPutExamples(t *testing.T) {
	for _, c := range []struct {
		n, width int
		s        string
		e        api.Errno
	}{
		{300, 2, "\x01\x2c", api.OK},
		{300, 3, "\x00\x01\x2c", api.OK},
		{0, 1, "\x00", api.OK},
		{0, 8, "\x00\x00\x00\x00\x00\x00\x00\x00", api.OK},
		{255, 1, "\xff", api.OK},
		{256, 1, "", api.ErrRange},
		{65535, 2, "\xff\xff", api.OK},
		{65536, 2, "", api.ErrRange},
		{0x0102030405060708, 8, "\x01\x02\x03\x04\x05\x06\x07\x08", api.OK},
		{math.MaxInt64, 8, "\x7f\xff\xff\xff\xff\xff\xff\xff", api.OK},
		{math.MaxInt64, 7, "", api.ErrRange},
	} {
		if s, e := octet.Put(c.n, c.width); s != c.s || e != c.e {
			t.Errorf("Put(%d, %d) = %q, %d, want %q, %d", c.n, c.width, s, e, c.s, c.e)
		}
	}
}

// P1.1: a wrong width comes ahead of a wrong integer.
func TestPutRefuses(t *testing.T) {
	negative := []int{-1, -2, -255, -256, -65536, math.MinInt + 1, math.MinInt}
	for _, n := range negative {
		for width := 1; width <= 8; width++ {
			if s, e := octet.Put(n, width); s != "" || e != api.ErrRange {
				t.Errorf("Put(%d, %d) = %q, %d, want ErrRange", n, width, s, e)
			}
		}
	}
	for _, n := range append(negative, 0, 1, 256, math.MaxInt) {
		for _, width := range wrongWidths {
			if s, e := octet.Put(n, width); s != "" || e != api.ErrArg {
				t.Errorf("Put(%d, %d) = %q, %d, want ErrArg", n, width, s, e)
			}
		}
	}
}

// P1.2: integers at both sides of 2^63 - 1, and lengths at both sides of 1 and 8.
func TestGet(t *testing.T) {
	for _, c := range []struct {
		s string
		n int
		e api.Errno
	}{
		{"", 0, api.ErrArg},
		{"\x00", 0, api.OK},
		{"\xff", 255, api.OK},
		{"\x01\x2c", 300, api.OK},
		{"\x00\x00\x05", 5, api.OK},
		{"\x80\x00\x00\x00\x00\x00\x00", 1 << 55, api.OK},
		{"\xff\xff\xff\xff\xff\xff\xff", 1<<56 - 1, api.OK},
		{"\x01\x02\x03\x04\x05\x06\x07\x08", 0x0102030405060708, api.OK},
		{"\x7f\xff\xff\xff\xff\xff\xff\xff", math.MaxInt64, api.OK},
		{"\x80\x00\x00\x00\x00\x00\x00\x00", 0, api.ErrRange},
		{"\x80\x00\x00\x00\x00\x00\x00\x01", 0, api.ErrRange},
		{"\xff\xff\xff\xff\xff\xff\xff\xff", 0, api.ErrRange},
		{"\x00\x00\x00\x00\x00\x00\x00\x00\x01", 0, api.ErrArg},
		{"\xff\xff\xff\xff\xff\xff\xff\xff\xff", 0, api.ErrArg},
		{strings.Repeat("\x00", 1000), 0, api.ErrArg},
	} {
		if n, e := octet.Get(c.s); n != c.n || e != c.e {
			t.Errorf("Get(%q) = %d, %d, want %d, %d", c.s, n, e, c.n, c.e)
		}
	}
}

// P1.2: every width, with nothing and with something behind the integer.
func TestNumber(t *testing.T) {
	for _, n := range edgeNumbers() {
		for width := 1; width <= 8; width++ {
			if !fits(n, width) {
				continue
			}
			for _, tail := range []string{"", "x", "\x00\xff", strings.Repeat("y", 20)} {
				s := bigEndian(n, width) + tail
				if got, rest, e := octet.Number(s, width); got != n || rest != tail || e != api.OK {
					t.Errorf("Number(%q, %d) = %d, %q, %d, want %d, %q", s, width, got, rest, e, n, tail)
				}
			}
		}
	}
}

// P1.2: each error, and which one is first where two apply.
func TestNumberRefuses(t *testing.T) {
	full := strings.Repeat("\xff", 9)
	for _, width := range wrongWidths {
		for _, s := range []string{"", "a", "abcdefgh", "abcdefghi", full} {
			expectNoNumber(t, s, width, api.ErrArg)
		}
	}
	for width := 1; width <= 8; width++ {
		for size := range width {
			expectNoNumber(t, full[:size], width, api.ErrShort)
		}
	}
	for _, s := range []string{"\x80\x00\x00\x00\x00\x00\x00\x00", full, full + "rest"} {
		expectNoNumber(t, s, 8, api.ErrRange)
	}
}

func expectNoNumber(t *testing.T, s string, width int, want api.Errno) {
	t.Helper()
	if n, rest, e := octet.Number(s, width); n != 0 || rest != "" || e != want {
		t.Errorf("Number(%q, %d) = %d, %q, %d, want error %d", s, width, n, rest, e, want)
	}
}

// P1.3: lengths on both sides of one byte's worth, and the longest.
func TestText(t *testing.T) {
	for _, size := range []int{0, 1, 2, 255, 256, 257, api.MaxText - 1, api.MaxText} {
		s := strings.Repeat("t", size)
		if b, e := octet.Text(s); b != bigEndian(size, 2)+s || e != api.OK {
			t.Errorf("Text of %d bytes: %d bytes, %d", size, len(b), e)
		}
	}
	for _, size := range []int{api.MaxText + 1, api.MaxText + 2, 2 * (api.MaxText + 1)} {
		if b, e := octet.Text(strings.Repeat("t", size)); b != "" || e != api.ErrLong {
			t.Errorf("Text of %d bytes: %d bytes, %d", size, len(b), e)
		}
	}
	// A length counts bytes, whatever characters they are.
	if b, e := octet.Text("\xc3\xa4\x00\xff"); b != "\x00\x04\xc3\xa4\x00\xff" || e != api.OK {
		t.Errorf("Text of bytes = %q, %d", b, e)
	}
}

// P1.3: with nothing and with something behind the string.
func TestTake(t *testing.T) {
	for _, size := range []int{0, 1, 2, 255, 256, 257, api.MaxText - 1, api.MaxText} {
		for _, tail := range []string{"", "x", "\x00", "\x00\x01", "\xff\xff\xff"} {
			want := strings.Repeat("t", size)
			s, rest, e := octet.Take(bigEndian(size, 2) + want + tail)
			if s != want || rest != tail || e != api.OK {
				t.Errorf("Take of %d bytes and %q: %d bytes, %q, %d", size, tail, len(s), rest, e)
			}
		}
	}
	if s, rest, e := octet.Take("\x00\x01AB"); s != "A" || rest != "B" || e != api.OK {
		t.Errorf("Take = %q, %q, %d", s, rest, e)
	}
}

// P1.3: a string that ends in its length, or in its bytes.
func TestTakeRefuses(t *testing.T) {
	long := "\xff\xff" + strings.Repeat("t", api.MaxText-1)
	for _, s := range []string{"", "\x00", "\x01", "\xff", "\x00\x01", "\x00\x02A", "\x01\x00A", "\xff\xff", long} {
		if a, rest, e := octet.Take(s); a != "" || rest != "" || e != api.ErrShort {
			t.Errorf("Take of %d bytes: %q, %q, %d, want ErrShort", len(s), a, rest, e)
		}
	}
}

func someLists() [][]string {
	return [][]string{
		nil,
		{},
		{""},
		{"", ""},
		{"a"},
		{"", "xy"},
		{"xy", "", "\x00", "\x00\x01", "\xff\xff"},
		{strings.Repeat("t", 255), strings.Repeat("u", 256)},
		{strings.Repeat("t", api.MaxText), "b", strings.Repeat("u", api.MaxText)},
		make([]string, 256),
		make([]string, api.MaxText),
	}
}

// A list's encoding, put together from the definition.
func listBytes(l []string) string {
	var b strings.Builder
	b.WriteString(bigEndian(len(l), 2))
	for _, x := range l {
		b.WriteString(bigEndian(len(x), 2) + x)
	}
	return b.String()
}

// P1.4: empty lists, empty elements, the longest element and the longest list.
func TestList(t *testing.T) {
	for i, l := range someLists() {
		before := slices.Clone(l)
		if s, e := octet.List(l); s != listBytes(l) || e != api.OK {
			t.Errorf("List %d: %d bytes, %d", i, len(s), e)
		}
		if !slices.Equal(l, before) {
			t.Errorf("List %d changed its argument", i)
		}
	}
	if s, e := octet.List([]string{"", "xy"}); s != "\x00\x02\x00\x00\x00\x02xy" || e != api.OK {
		t.Errorf("List = %q, %d", s, e)
	}
}

// P1.4: too many elements, and an element that is too long, wherever it stands.
func TestListRefuses(t *testing.T) {
	long := strings.Repeat("t", api.MaxText+1)
	most := make([]string, api.MaxText)
	most[api.MaxText-1] = long
	for i, l := range [][]string{
		make([]string, api.MaxText+1),
		make([]string, 2*(api.MaxText+1)),
		{long},
		{long, "a", "b"},
		{"a", long, "b"},
		{"a", "b", long},
		most,
	} {
		if s, e := octet.List(l); s != "" || e != api.ErrLong {
			t.Errorf("List %d: %d bytes, %d, want ErrLong", i, len(s), e)
		}
	}
}

// P1.4: a decoded list, and what stands behind it.
func TestItems(t *testing.T) {
	for i, l := range someLists() {
		for _, tail := range []string{"", "z", "\x00", "\x00\x00", "\xff\xff\xff"} {
			got, rest, e := octet.Items(listBytes(l) + tail)
			if !slices.Equal(got, l) || rest != tail || e != api.OK {
				t.Errorf("Items of list %d and %q: %d elements, %q, %d", i, tail, len(got), rest, e)
			}
		}
	}
	if l, rest, e := octet.Items("\x00\x00"); len(l) != 0 || rest != "" || e != api.OK {
		t.Errorf("Items of an empty list = %q, %q, %d", l, rest, e)
	}
}

// P1.4: a list that ends too early in each place.
func TestItemsRefuses(t *testing.T) {
	whole := listBytes([]string{"", "abc", "\x00\x01", "d", ""})
	for size := range len(whole) {
		expectNoItems(t, whole[:size])
	}
	most := listBytes(make([]string, api.MaxText))
	for _, s := range []string{"", "\x00", "\xff", "\xff\xff", "\x00\x01", "\x00\x01\x00", "\x00\x01\x00\x01", most[:len(most)-1]} {
		expectNoItems(t, s)
	}
}

func expectNoItems(t *testing.T, s string) {
	t.Helper()
	if l, rest, e := octet.Items(s); len(l) != 0 || rest != "" || e != api.ErrShort {
		t.Errorf("Items of %d bytes: %q, %q, %d, want ErrShort", len(s), l, rest, e)
	}
}

// R1: a list that was handed out is the caller's own.
func TestItemsAreNew(t *testing.T) {
	s := listBytes([]string{"a", "b"})
	first, _, _ := octet.Items(s)
	if len(first) != 2 {
		t.Fatalf("Items = %q", first)
	}
	first[0] = "changed"
	if second, _, e := octet.Items(s); !slices.Equal(second, []string{"a", "b"}) || e != api.OK {
		t.Errorf("Items a second time = %q, %d", second, e)
	}
}

// P1.5: Get, and Number too, invert Put.
func TestGetInvertsPut(t *testing.T) {
	for _, n := range edgeNumbers() {
		for width := 1; width <= 8; width++ {
			if !fits(n, width) {
				continue
			}
			s, e := octet.Put(n, width)
			if e != api.OK || len(s) != width {
				t.Errorf("Put(%d, %d) = %q, %d", n, width, s, e)
			}
			if got, e := octet.Get(s); got != n || e != api.OK {
				t.Errorf("Get(%q) = %d, %d, want %d", s, got, e, n)
			}
			if got, rest, e := octet.Number(s+"tail", width); got != n || rest != "tail" || e != api.OK {
				t.Errorf("Number(%q, %d) = %d, %q, %d, want %d", s+"tail", width, got, rest, e, n)
			}
		}
	}
}

// P1.5: encodings of one width compare like the integers.
func TestOrder(t *testing.T) {
	for width := 1; width <= 8; width++ {
		last, some := "", false
		for _, n := range edgeNumbers() {
			if !fits(n, width) {
				continue
			}
			s, e := octet.Put(n, width)
			if e != api.OK || some && s <= last {
				t.Errorf("Put(%d, %d) = %q, %d, behind %q", n, width, s, e, last)
			}
			last, some = s, true
		}
	}
}

// P1.5: what List made, Items finds again, and Take what Text made.
func TestListsComeBack(t *testing.T) {
	for i, l := range someLists() {
		s, e := octet.List(l)
		if e != api.OK {
			t.Errorf("List %d: %d", i, e)
		}
		for _, tail := range []string{"", "\x00", "\x00\x01x", s[:min(len(s), 99)]} {
			got, rest, e := octet.Items(s + tail)
			if !slices.Equal(got, l) || rest != tail || e != api.OK {
				t.Errorf("Items of list %d and %q: %d elements, %q, %d", i, tail, len(got), rest, e)
			}
		}
		for _, x := range l {
			b, e := octet.Text(x)
			got, rest, e2 := octet.Take(b + "tail")
			if e != api.OK || got != x || rest != "tail" || e2 != api.OK {
				t.Errorf("Take of Text of %d bytes: %d bytes, %q, %d, %d", len(x), len(got), rest, e, e2)
				break
			}
		}
	}
}

// P1: no string stops a call. What is decoded encodes to the same bytes again; what is refused leaves nothing.
func TestAllSmallStrings(t *testing.T) {
	var walk func(s string, depth int)
	walk = func(s string, depth int) {
		checkNumbers(t, s)
		checkTexts(t, s)
		if depth == 0 {
			return
		}
		for _, c := range []string{"\x00", "\x01", "\x02", "\xff"} {
			walk(s+c, depth-1)
		}
	}
	walk("", 7)
}

func checkNumbers(t *testing.T, s string) {
	n, e := octet.Get(s)
	if b, e2 := octet.Put(n, len(s)); e == api.OK && (b != s || e2 != api.OK) || e != api.OK && n != 0 {
		t.Errorf("Get(%q) = %d, %d", s, n, e)
	}
	for width := -1; width <= 10; width++ {
		n, rest, e := octet.Number(s, width)
		b, e2 := octet.Put(n, width)
		if e == api.OK && (b+rest != s || e2 != api.OK) || e != api.OK && (n != 0 || rest != "") {
			t.Errorf("Number(%q, %d) = %d, %q, %d", s, width, n, rest, e)
		}
	}
}

func checkTexts(t *testing.T, s string) {
	a, rest, e := octet.Take(s)
	if b, _ := octet.Text(a); e == api.OK && b+rest != s || e != api.OK && a+rest != "" {
		t.Errorf("Take(%q) = %q, %q, %d", s, a, rest, e)
	}
	l, rest, e := octet.Items(s)
	if b, _ := octet.List(l); e == api.OK && b+rest != s || e != api.OK && (len(l) != 0 || rest != "") {
		t.Errorf("Items(%q) = %q, %q, %d", s, l, rest, e)
	}
}
