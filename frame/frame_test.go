package frame_test

import (
	"encoding/binary"
	"hash/crc32"
	"math"
	"strings"
	"testing"

	"counterfoil/api"
	"counterfoil/frame"
)

// The length field's edges, and the body's.
var sizes = []int{0, 1, 2, 3, 4, 7, 100, 254, 255, 256, 257, 511, 512, 4094, api.MaxBody - 1, api.MaxBody}

var wrongKinds = []int{math.MinInt, -256, -255, -1, 256, 257, 511, 512, 65536, 1 << 32, math.MaxInt}

// A string of all kinds of bytes that is the same in each run.
func mixed(size int) string {
	b := make([]byte, size)
	state := uint32(size) + 1
	for i := range b {
		state = state*1664525 + 1013904223
		b[i] = byte(state >> 24)
	}
	return string(b)
}

// The standard library's checksum behind s, whatever s is.
func summed(s string) string {
	return string(binary.BigEndian.AppendUint32([]byte(s), crc32.ChecksumIEEE([]byte(s))))
}

// A head with any length field, whether a frame may have it or not.
func head(kind, length int) string {
	return string(binary.BigEndian.AppendUint16([]byte{byte(kind)}, uint16(length)))
}

// A frame, put together from the definition.
func frameBytes(kind int, body string) string {
	return summed(head(kind, len(body)) + body)
}

func expectFrame(t *testing.T, kind int, body string) {
	t.Helper()
	want := frameBytes(kind, body)
	if s, e := frame.Seal(kind, body); s != want || e != api.OK {
		t.Errorf("Seal(%d, %d bytes): %d bytes, %d, want %d bytes", kind, len(body), len(s), e, len(want))
	}
	if k, b, e := frame.Open(want); k != kind || b != body || e != api.OK {
		t.Errorf("Open of kind %d with %d bytes: %d, %d bytes, %d", kind, len(body), k, len(b), e)
	}
}

func expectNoFrame(t *testing.T, s string, want api.Errno) {
	t.Helper()
	if k, b, e := frame.Open(s); k != 0 || b != "" || e != want {
		t.Errorf("Open of %d bytes, %q: %d, %d bytes, %d, want error %d", len(s), s[:min(len(s), 12)], k, len(b), e, want)
	}
}

// P3.1 and P3.2: each kind, and bodies of all sizes up to the longest.
func TestFrames(t *testing.T) {
	for kind := range 256 {
		for _, body := range []string{"", "a", mixed(300)} {
			expectFrame(t, kind, body)
		}
	}
	for _, size := range sizes {
		for _, body := range []string{mixed(size), strings.Repeat("\x00", size), strings.Repeat("\xff", size)} {
			for _, kind := range []int{0, 1, 127, 128, 255} {
				expectFrame(t, kind, body)
			}
		}
	}
	// Bytes that are no characters, and a body that is a frame itself.
	for _, body := range []string{"\xc3\xa4", "\xff\xc3", "\x00\x00", frameBytes(0, ""), frameBytes(3, "abc")} {
		expectFrame(t, 9, body)
	}
}

// P3.1 and P3.2: bytes that are written out by hand.
func TestExamples(t *testing.T) {
	for _, c := range []struct {
		kind int
		body string
		s    string
	}{
		{1, "", "\x01\x00\x00\xfe\x83\xb3\x25"},
		{0, "", "\x00\x00\x00\xff\x41\xd9\x12"},
		{255, "", "\xff\x00\x00\x41\xd9\xed\xff"},
		{1, "hi", "\x01\x00\x02hi\x61\x8c\x32\x90"},
		{7, strings.Repeat("a", 256), "\x07\x01\x00" + strings.Repeat("a", 256) + "\x1c\xba\x7c\x1f"},
	} {
		if s, e := frame.Seal(c.kind, c.body); s != c.s || e != api.OK {
			t.Errorf("Seal(%d, %q) = %q, %d, want %q", c.kind, c.body, s, e, c.s)
		}
		if k, b, e := frame.Open(c.s); k != c.kind || b != c.body || e != api.OK {
			t.Errorf("Open(%q) = %d, %q, %d", c.s, k, b, e)
		}
		expectNoFrame(t, c.s+"\x00", api.ErrForm)
	}
}

// P3.1: a wrong kind comes ahead of a body that is too long.
func TestSealRefuses(t *testing.T) {
	long := strings.Repeat("b", api.MaxBody+1)
	for _, kind := range wrongKinds {
		for _, body := range []string{"", "a", long[1:], long, strings.Repeat(long, 20)} {
			expectNoSeal(t, kind, body, api.ErrArg)
		}
	}
	for _, kind := range []int{0, 1, 255} {
		// 65536 is 0 in two bytes: a length that wraps round must not pass.
		for _, size := range []int{api.MaxBody + 1, api.MaxBody + 2, 2 * api.MaxBody, 65535, 65536, 65537, 1 << 20} {
			expectNoSeal(t, kind, strings.Repeat("b", size), api.ErrLong)
		}
	}
}

func expectNoSeal(t *testing.T, kind int, body string, want api.Errno) {
	t.Helper()
	if s, e := frame.Seal(kind, body); s != "" || e != want {
		t.Errorf("Seal(%d, %d bytes): %d bytes, %d, want error %d", kind, len(body), len(s), e, want)
	}
}

// P3.2: fewer than 7 bytes are short, whatever they say.
func TestOpenOfFewBytes(t *testing.T) {
	for size := range 7 {
		for _, s := range []string{"\x00\x00\x00\x00\x00\x00\x00", "\xff\xff\xff\xff\xff\xff\xff", "\x01\x10\x01abcd", "\x01\x00\x00abcd", summed("\x01\x00")} {
			expectNoFrame(t, s[:min(len(s), size)], api.ErrShort)
		}
	}
}

// P3.2: a length field above MaxBody is wrong, be the string too short, too long, or just as long, with a right checksum.
func TestOpenOfLongLengths(t *testing.T) {
	for _, length := range []int{api.MaxBody + 1, api.MaxBody + 2, 2 * api.MaxBody, 32768, 65534, 65535} {
		for _, size := range []int{0, 1, api.MaxBody, length - 1, length, length + 1} {
			s := head(1, length) + strings.Repeat("b", size)
			expectNoFrame(t, summed(s), api.ErrForm)
			expectNoFrame(t, s+"0000", api.ErrForm)
		}
	}
}

// P3.2: a string that is shorter or longer than its length field tells, with a right checksum and with a wrong one.
func TestOpenOfOtherSizes(t *testing.T) {
	for _, length := range sizes {
		for _, size := range append(sizes, api.MaxBody+1, 65536+length) {
			if size == length {
				continue
			}
			want := api.ErrShort
			if size > length {
				want = api.ErrForm
			}
			s := head(5, length) + mixed(size)
			expectNoFrame(t, summed(s), want)
			expectNoFrame(t, s+"0000", want)
		}
	}
}

// P3.2: four other bytes than the checksum, and a checksum of fewer bytes than all before it.
func TestOpenOfWrongSums(t *testing.T) {
	for _, size := range sizes {
		covered := head(6, size) + mixed(size)
		end := summed(covered)[len(covered):]
		for _, other := range []string{
			string([]byte{end[3], end[2], end[1], end[0]}),
			string([]byte{^end[0], ^end[1], ^end[2], ^end[3]}),
			end[1:] + end[:1],
			"\x00\x00\x00\x00",
			summed(covered[1:])[size+2:],
			summed(covered[3:])[size:],
		} {
			if other != end {
				expectNoFrame(t, covered+other, api.ErrSum)
			}
		}
	}
}

// P3.3: what Seal made, Open finds again, and any other kind or body makes another frame.
func TestOpenInvertsSeal(t *testing.T) {
	type content struct {
		kind int
		body string
	}
	seen := map[string]content{}
	for kind := range 256 {
		for _, size := range sizes {
			c := content{kind, mixed(size)}
			s, e := frame.Seal(c.kind, c.body)
			if e != api.OK {
				t.Fatalf("Seal(%d, %d bytes): %d", kind, size, e)
			}
			if k, b, e := frame.Open(s); k != c.kind || b != c.body || e != api.OK {
				t.Errorf("Open of Seal(%d, %d bytes): %d, %d bytes, %d", kind, size, k, len(b), e)
			}
			if _, there := seen[s]; there {
				t.Errorf("Seal(%d, %d bytes) is another's frame too", kind, size)
			}
			seen[s] = c
		}
	}
}

// P3.3: each byte changed to each other value.
func TestChangedBytes(t *testing.T) {
	for _, size := range []int{0, 1, 2, 3, 30, 255, 256} {
		whole := frameBytes(size%256, mixed(size))
		for at := range len(whole) {
			changeByte(t, whole, at)
		}
	}
	// Of the longest frame the ends, and some places between.
	whole := frameBytes(200, mixed(api.MaxBody))
	for at := range len(whole) {
		if at < 8 || at >= len(whole)-8 || at%512 == 0 {
			changeByte(t, whole, at)
		}
	}
}

func changeByte(t *testing.T, whole string, at int) {
	t.Helper()
	for change := 1; change < 256; change++ {
		b := []byte(whole)
		b[at] ^= byte(change)
		// A change of the length field makes the size wrong, any other the checksum.
		want := api.ErrSum
		if length := int(b[1])<<8 | int(b[2]); length > api.MaxBody || length < len(whole)-7 {
			want = api.ErrForm
		} else if length > len(whole)-7 {
			want = api.ErrShort
		}
		expectNoFrame(t, string(b), want)
	}
}

// P3.3: bytes that are missing at the end, from one to all.
func TestMissingBytes(t *testing.T) {
	for _, size := range sizes {
		whole := frameBytes(3, mixed(size))
		for end := range len(whole) {
			expectNoFrame(t, whole[:end], api.ErrShort)
		}
	}
}

// P1: no string stops a call. What is opened seals to the same bytes again; what is refused leaves nothing.
func TestAllSmallStrings(t *testing.T) {
	var walk func(s string, depth int)
	walk = func(s string, depth int) {
		for _, x := range []string{s, summed(s)} {
			k, b, e := frame.Open(x)
			if again, e2 := frame.Seal(k, b); e == api.OK && (again != x || e2 != api.OK) || e != api.OK && (k != 0 || b != "") {
				t.Errorf("Open(%q) = %d, %q, %d", x, k, b, e)
			}
		}
		if depth == 0 {
			return
		}
		for _, c := range []string{"\x00", "\x01", "\x02", "\x10", "\xff"} {
			walk(s+c, depth-1)
		}
	}
	walk("", 7)
}
