// Package octet is layer 1: integers, strings and lists of strings as bytes, in big-endian byte order.
package octet

import (
	"strings"

	"counterfoil/api"
)

const (
	maxWidth   = 8 // bytes of the widest integer
	countWidth = 2 // bytes of a string's length and of a list's number of elements
)

// Put returns the encoding of n in width bytes.
func Put(n int, width int) (string, api.Errno) {
	if !isWidth(width) {
		return "", api.ErrArg
	}
	if n < 0 || n>>(8*width) != 0 {
		return "", api.ErrRange
	}
	return encode(n, width), api.OK
}

// Get returns the integer that the whole of s encodes.
func Get(s string) (int, api.Errno) {
	if !isWidth(len(s)) {
		return 0, api.ErrArg
	}
	return decode(s)
}

// Number returns the integer of the given width at the beginning of s, and the rest of s.
func Number(s string, width int) (int, string, api.Errno) {
	if !isWidth(width) {
		return 0, "", api.ErrArg
	}
	if len(s) < width {
		return 0, "", api.ErrShort
	}
	n, e := decode(s[:width])
	if e != api.OK {
		return 0, "", e
	}
	return n, s[width:], api.OK
}

// Text returns the encoding of the string s.
func Text(s string) (string, api.Errno) {
	if len(s) > api.MaxText {
		return "", api.ErrLong
	}
	return encode(len(s), countWidth) + s, api.OK
}

// Take returns the string that is encoded at the beginning of s, and the rest of s.
func Take(s string) (string, string, api.Errno) {
	n, rest, e := Number(s, countWidth)
	if e != api.OK {
		return "", "", e
	}
	if len(rest) < n {
		return "", "", api.ErrShort
	}
	return rest[:n], rest[n:], api.OK
}

// List returns the encoding of the list l.
func List(l []string) (string, api.Errno) {
	if len(l) > api.MaxText {
		return "", api.ErrLong
	}
	size := countWidth
	for _, s := range l {
		if len(s) > api.MaxText {
			return "", api.ErrLong
		}
		size += countWidth + len(s)
	}
	return join(l, size), api.OK
}

// Items returns the list that is encoded at the beginning of s, and the rest of s.
func Items(s string) ([]string, string, api.Errno) {
	n, rest, e := Number(s, countWidth)
	if e != api.OK {
		return nil, "", e
	}
	// No room is set aside for n elements: n is only what s claims, and s may end long before.
	var l []string
	for range n {
		var item string
		item, rest, e = Take(rest)
		if e != api.OK {
			return nil, "", e
		}
		l = append(l, item)
	}
	return l, rest, api.OK
}

func isWidth(width int) bool { return width >= 1 && width <= maxWidth }

// encode expects that n fits into width bytes.
func encode(n int, width int) string {
	b := make([]byte, width)
	for i := width - 1; i >= 0; i-- {
		b[i] = byte(n)
		n >>= 8
	}
	return string(b)
}

// decode expects at most maxWidth bytes.
func decode(s string) (int, api.Errno) {
	var n uint64
	for i := range len(s) {
		n = n<<8 | uint64(s[i])
	}
	// An int has one bit less than the widest encoding.
	if n>>63 != 0 {
		return 0, api.ErrRange
	}
	return int(n), api.OK
}

// join expects counts that fit into countWidth bytes; size is the length of what it returns.
func join(l []string, size int) string {
	var b strings.Builder
	b.Grow(size)
	b.WriteString(encode(len(l), countWidth))
	for _, s := range l {
		b.WriteString(encode(len(s), countWidth))
		b.WriteString(s)
	}
	return b.String()
}
