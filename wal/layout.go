package wal

import (
	"strings"

	"counterfoil/api"
	"counterfoil/disk"
	"counterfoil/octet"
)

const (
	slotMark   = "S"
	recordMark = "R"
	minSlot    = 2 // sectors: a slot's header and some of its state
	minRing    = 3 // positions
)

// slotHeader is the first sector of a slot; its position and number are those of the first record after it.
type slotHeader struct {
	generation, length, position, number int
}

type recordHeader struct {
	number, length int
}

// write is what a sector becomes.
type write struct {
	sector  int
	content string
}

// fits tells whether a log with slots of slot sectors has room on n sectors.
func fits(n int, slot int) bool {
	// A slot longer than the disk is refused by itself: twice its length might be too great for an int.
	return slot >= minSlot && slot <= n && ringSize(n, slot) >= minRing
}

func ringSize(n int, slot int) int { return n - 2*slot }

// sectorsOf returns how many sectors hold n bytes.
func sectorsOf(n int) int { return (n + api.Sector - 1) / api.Sector }

// positionsOf returns how many positions a record of n bytes occupies.
func positionsOf(n int) int { return 1 + sectorsOf(n) }

// longestRecord leaves, of so many positions, one to the header and one to stay free.
func longestRecord(positions int) int { return api.Sector * (positions - 2) }

func longestState(slot int) int { return api.Sector * (slot - 1) }

func (h slotHeader) encode() string {
	return slotMark + encoded(h.generation, 8) + encoded(h.length, 4) + encoded(h.position, 4) + encoded(h.number, 8)
}

func (h recordHeader) encode() string {
	return recordMark + encoded(h.number, 8) + encoded(h.length, 4)
}

func decodeSlot(sector string) (slotHeader, bool) {
	n, ok := numbers(sector, slotMark, 8, 4, 4, 8)
	if !ok {
		return slotHeader{}, false
	}
	return slotHeader{generation: n[0], length: n[1], position: n[2], number: n[3]}, true
}

func decodeRecord(sector string) (recordHeader, bool) {
	n, ok := numbers(sector, recordMark, 8, 4)
	if !ok {
		return recordHeader{}, false
	}
	return recordHeader{number: n[0], length: n[1]}, true
}

// encoded expects a number that fits, as those of headers do by the limits of disks and numbers.
func encoded(n int, width int) string {
	s, _ := octet.Put(n, width)
	return s
}

// numbers returns the numbers of these widths behind the mark, if the sector has nothing but zero bytes behind them.
func numbers(sector string, mark string, widths ...int) ([]int, bool) {
	rest, ok := strings.CutPrefix(sector, mark)
	if !ok {
		return nil, false
	}
	var list []int
	for _, width := range widths {
		n, after, e := octet.Number(rest, width)
		if e != api.OK {
			return nil, false
		}
		list = append(list, n)
		rest = after
	}
	if strings.Trim(rest, "\x00") != "" {
		return nil, false
	}
	return list, true
}

// sector returns where the header stands: the generations take turns between the two slots.
func (h slotHeader) sector(slot int) int { return h.generation % 2 * slot }

// validIn tells whether the header, read at the given sector of a disk of n sectors, makes its slot valid.
func (h slotHeader) validIn(n int, slot int, sector int) bool {
	return h.generation >= 1 && h.generation <= api.MaxNum &&
		h.sector(slot) == sector &&
		h.length <= longestState(slot) &&
		h.position < ringSize(n, slot) &&
		h.number >= 1 && h.number <= api.MaxNum
}

// currentSlot returns the header of the valid slot with the greater generation, or what a log without such a slot starts from.
func currentSlot(sectors []string, slot int) slotHeader {
	current := slotHeader{number: 1}
	for _, at := range []int{0, slot} {
		h, ok := decodeSlot(sectors[at])
		if ok && h.validIn(len(sectors), slot, at) && h.generation > current.generation {
			current = h
		}
	}
	return current
}

func readAll(d *disk.Disk) ([]string, api.Errno) {
	sectors := make([]string, d.Size())
	for i := range sectors {
		s, e := d.Read(i)
		if e != api.OK {
			return nil, e
		}
		sectors[i] = s
	}
	return sectors, api.OK
}

// store makes the body durable ahead of the header, so that no crash leaves a header without the body that it announces.
func store(d *disk.Disk, body []write, header write) bool {
	return flushed(d, body...) && flushed(d, header)
}

// flushed reports whether the disk took all writes and made them durable; it stops at the first refusal.
func flushed(d *disk.Disk, writes ...write) bool {
	for _, w := range writes {
		if d.Write(w.sector, w.content) != api.OK {
			return false
		}
	}
	return d.Flush() == api.OK
}

// cut returns s in pieces of a sector each; the last one may be shorter.
func cut(s string) []string {
	var pieces []string
	for len(s) > api.Sector {
		pieces = append(pieces, s[:api.Sector])
		s = s[api.Sector:]
	}
	if s != "" {
		pieces = append(pieces, s)
	}
	return pieces
}

// joined returns the first n bytes of the sectors, which hold as many.
func joined(sectors []string, n int) string {
	return strings.Join(sectors, "")[:n]
}
