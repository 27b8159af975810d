package sum_test

import (
	"encoding/binary"
	"hash/crc32"
	"math"
	"strings"
	"testing"

	"counterfoil/sum"
)

// The checksum bit by bit, as the definition says it, to hold ours against.
func byDefinition(start uint32, s string) uint32 {
	register := ^start
	for i := range len(s) {
		register ^= uint32(s[i])
		for range 8 {
			if register&1 == 1 {
				register = register>>1 ^ 0xEDB88320
			} else {
				register >>= 1
			}
		}
	}
	return ^register
}

// A string of all kinds of bytes that is the same in each run.
func mixed(size int) string {
	b := make([]byte, size)
	state := uint32(size) + 1
	for i := range b {
		state = state*1664525 + 1013904223
		b[i] = byte(state >> 24)
	}
	return string(b)
}

// Every length up to beyond a table's, and some that are long.
func someStrings() []string {
	l := []string{
		"123456789",
		strings.Repeat("\x00", 1), strings.Repeat("\x00", 4), strings.Repeat("\x00", 1000),
		strings.Repeat("\xff", 1), strings.Repeat("\xff", 4), strings.Repeat("\xff", 1000),
		"\x00\x00a", "a\x00\x00", "\xc3\xa4", "\xff\xc3",
		mixed(4096), mixed(65535), mixed(1 << 18),
	}
	for size := range 300 {
		l = append(l, mixed(size))
	}
	for n := range 256 {
		l = append(l, string([]byte{byte(n)}))
	}
	return l
}

func someSums() []uint32 {
	l := []uint32{0, 1, 2, 0x7fffffff, 0x80000000, 0xcbf43926, 0xedb88320, math.MaxUint32 - 1, math.MaxUint32}
	for bit := range 32 {
		l = append(l, 1<<bit)
	}
	return l
}

func bigEndian(n uint32) string {
	var b [4]byte
	binary.BigEndian.PutUint32(b[:], n)
	return string(b[:])
}

// P2.1: values that are known from elsewhere.
func TestKnownSums(t *testing.T) {
	for _, c := range []struct {
		s    string
		want uint32
	}{
		{"", 0},
		{"123456789", 0xcbf43926},
		{"a", 0xe8b7be43},
		{"abc", 0x352441c2},
		{"\x00", 0xd202ef8d},
		{"\xff", 0xff000000},
		{"\x00\x00\x00\x00", 0x2144df1c},
		{"\xff\xff\xff\xff", 0xffffffff},
		{"The quick brown fox jumps over the lazy dog", 0x414fa339},
	} {
		if got := sum.Of(c.s); got != c.want {
			t.Errorf("Of(%q) = %x, want %x", c.s, got, c.want)
		}
	}
}

// P2.1: each index, with values that are written out, and with the standard library's table.
func TestTable(t *testing.T) {
	table := sum.Table()
	for n, want := range crc32.MakeTable(crc32.IEEE) {
		if table[n] != want {
			t.Errorf("Table()[%d] = %x, want %x", n, table[n], want)
		}
	}
	for n, want := range map[int]uint32{0: 0, 1: 0x77073096, 2: 0xee0e612c, 128: 0xedb88320, 255: 0x2d02ef8d} {
		if table[n] != want {
			t.Errorf("Table()[%d] = %x, want %x", n, table[n], want)
		}
	}
}

// R1: a table that was handed out is the caller's own.
func TestTableIsNew(t *testing.T) {
	first := sum.Table()
	for n := range first {
		first[n] = 7
	}
	if second := sum.Table(); second[0] != 0 || second[1] != 0x77073096 || sum.Of("123456789") != 0xcbf43926 {
		t.Errorf("Table() a second time = %x", second)
	}
}

// P2.1: the definition, and the standard library.
func TestOf(t *testing.T) {
	for _, s := range someStrings() {
		got := sum.Of(s)
		if want := byDefinition(0, s); got != want {
			t.Errorf("Of %d bytes = %x, want %x", len(s), got, want)
		}
		if want := crc32.ChecksumIEEE([]byte(s)); got != want {
			t.Errorf("Of %d bytes = %x, the library's is %x", len(s), got, want)
		}
	}
}

// P2.1: a checksum goes on from any start, whether a string has it or not.
func TestOn(t *testing.T) {
	for _, start := range someSums() {
		if got := sum.On(start, ""); got != start {
			t.Errorf("On(%x, nothing) = %x", start, got)
		}
		for size := range 40 {
			s := mixed(size)
			if got, want := sum.On(start, s), byDefinition(start, s); got != want {
				t.Errorf("On(%x, %q) = %x, want %x", start, s, got, want)
			}
			if got, want := sum.On(start, s), crc32.Update(start, crc32.IEEETable, []byte(s)); got != want {
				t.Errorf("On(%x, %q) = %x, the library's is %x", start, s, got, want)
			}
		}
	}
	for _, s := range someStrings() {
		if got, want := sum.On(0, s), sum.Of(s); got != want {
			t.Errorf("On(0, %d bytes) = %x, Of is %x", len(s), got, want)
		}
	}
}

// P2.2: strings with their checksum behind them, and the four bytes in other orders.
func TestRight(t *testing.T) {
	for _, s := range someStrings() {
		n := crc32.ChecksumIEEE([]byte(s))
		end := bigEndian(n)
		if !sum.Right(s + end) {
			t.Errorf("Right is false for %d bytes and their checksum", len(s))
		}
		reversed := string([]byte{end[3], end[2], end[1], end[0]})
		for _, other := range []string{reversed, end[1:] + end[:1], bigEndian(^n), bigEndian(n + 1)} {
			if got, want := sum.Right(s+other), other == end; got != want {
				t.Errorf("Right of %d bytes and %x = %v, the checksum is %x", len(s), other, got, end)
			}
		}
	}
	// No byte at all has the checksum 0.
	if !sum.Right("\x00\x00\x00\x00") || sum.Right("\x00\x00\x00\x01") || sum.Right("\x01\x00\x00\x00") {
		t.Errorf("Right of four bytes")
	}
}

// P2.2: fewer than four bytes are never right, not even where they begin or end like a checksum.
func TestRightOfShortStrings(t *testing.T) {
	short := []string{"", "abc", "\x00\x00\x00", "\x21\x44\xdf", "\xff\xff\xff"}
	for n := range 256 {
		c := string([]byte{byte(n)})
		short = append(short, c, c+c, c+c+c, c+"\x00", "\x00"+c, "\x00\x00"+c)
	}
	for _, s := range short {
		if sum.Right(s) {
			t.Errorf("Right(%q)", s)
		}
	}
}

// P2.2: a change of any bit, anywhere, and a byte too many or too few.
func TestRightFindsFaults(t *testing.T) {
	for _, size := range []int{0, 1, 2, 3, 4, 5, 30, 100} {
		body := mixed(size)
		whole := body + bigEndian(crc32.ChecksumIEEE([]byte(body)))
		if !sum.Right(whole) {
			t.Errorf("Right(%q) is false", whole)
		}
		for i := range len(whole) {
			for bit := range 8 {
				b := []byte(whole)
				b[i] ^= 1 << bit
				if sum.Right(string(b)) {
					t.Errorf("Right(%q), changed in byte %d", b, i)
				}
			}
		}
		if sum.Right(whole + "x") {
			t.Errorf("Right(%q), with a byte behind", whole+"x")
		}
		if size > 0 && (sum.Right(whole[1:]) || sum.Right(whole[:len(whole)-1])) {
			t.Errorf("Right(%q), without a byte", whole)
		}
	}
}

// P2.3: in two and in three parts, cut everywhere.
func TestParts(t *testing.T) {
	s := mixed(61)
	want := sum.Of(s)
	for i := range len(s) + 1 {
		if got := sum.On(sum.Of(s[:i]), s[i:]); got != want {
			t.Errorf("cut at %d: %x, want %x", i, got, want)
		}
		for j := i; j <= len(s); j++ {
			if got := sum.On(sum.On(sum.On(0, s[:i]), s[i:j]), s[j:]); got != want {
				t.Errorf("cut at %d and %d: %x, want %x", i, j, got, want)
			}
		}
	}
	byByte := uint32(0)
	for i := range len(s) {
		byByte = sum.On(byByte, s[i:i+1])
	}
	if byByte != want {
		t.Errorf("byte by byte: %x, want %x", byByte, want)
	}
}

// P2.3: a change within four consecutive bytes is always seen, wherever they stand.
func TestChangesWithinFourBytes(t *testing.T) {
	s := mixed(24)
	old := sum.Of(s)
	for at := range len(s) - 3 {
		for _, change := range someChanges() {
			b := []byte(s)
			for i := range 4 {
				b[at+i] ^= byte(change >> (8 * i))
			}
			if sum.Of(string(b)) == old {
				t.Errorf("the change %x at %d is not seen", change, at)
			}
		}
	}
}

// One and two bits of the 32, and some thicker changes; never none.
func someChanges() []uint32 {
	l := []uint32{math.MaxUint32, 0xedb88320, 0x82608edb, 0x04c11db7, 0x00ffff00, 0xff0000ff}
	state := uint32(1)
	for range 500 {
		state = state*1664525 + 1013904223
		l = append(l, state|1)
	}
	for i := range 32 {
		for j := range i + 1 {
			l = append(l, 1<<i|1<<j)
		}
	}
	return l
}

// P2.3: four bytes alone: as no two of them share a checksum, each checksum that is made by one is made by no other.
func TestFourBytesAlone(t *testing.T) {
	seen := map[uint32]string{}
	for n := range 1 << 16 {
		s := bigEndian(uint32(n) * 65537)
		c := sum.Of(s)
		if other, there := seen[c]; there {
			t.Fatalf("%q and %q have the checksum %x", s, other, c)
		}
		seen[c] = s
	}
}
