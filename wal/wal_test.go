package wal_test

import (
	"encoding/binary"
	"errors"
	"fmt"
	"math"
	"slices"
	"strings"
	"testing"

	"counterfoil/api"
	"counterfoil/disk"
	"counterfoil/wal"
)

const sector = api.Sector

func padded(s string) string { return s + strings.Repeat("\x00", sector-len(s)) }

func text(n int) string {
	b := make([]byte, n)
	for i := range b {
		b[i] = byte('a' + i%26)
	}
	return string(b)
}

// The headers, laid out as the chapter says, by other means than the package's.
func slotHead(generation, length, position, number int) string {
	b := []byte{'S'}
	b = binary.BigEndian.AppendUint64(b, uint64(generation))
	b = binary.BigEndian.AppendUint32(b, uint32(length))
	b = binary.BigEndian.AppendUint32(b, uint32(position))
	b = binary.BigEndian.AppendUint64(b, uint64(number))
	return padded(string(b))
}

func recordHead(number, length int) string {
	b := []byte{'R'}
	b = binary.BigEndian.AppendUint64(b, uint64(number))
	b = binary.BigEndian.AppendUint32(b, uint32(length))
	return padded(string(b))
}

// A disk with these contents, all of it durable.
func diskOf(t *testing.T, size int, contents map[int]string) *disk.Disk {
	t.Helper()
	d := disk.New(size)
	for i, s := range contents {
		if e := d.Write(i, s); e != api.OK {
			t.Fatalf("Write(%d, %q) = %d", i, s, e)
		}
	}
	if e := d.Flush(); e != api.OK {
		t.Fatalf("Flush() = %d", e)
	}
	return d
}

// A disk without a zero byte, so that each write to it can be told from what was there.
func junk(size int) map[int]string {
	m := map[int]string{}
	for i := range size {
		m[i] = strings.Repeat("\xee", sector)
	}
	return m
}

func with(m map[int]string, i int, s string) map[int]string {
	m[i] = s
	return m
}

func image(t *testing.T, d *disk.Disk) []string {
	t.Helper()
	var l []string
	for i := range d.Size() {
		s, e := d.Read(i)
		if e != api.OK {
			t.Fatalf("Read(%d) = %d", i, e)
		}
		l = append(l, s)
	}
	return l
}

func mustOpen(t *testing.T, d *disk.Disk, slot int) *wal.Wal {
	t.Helper()
	w, _, _, err := wal.Open(d, slot)
	if w == nil || err != nil {
		t.Fatalf("Open(.., %d) = %v, %v", slot, w, err)
	}
	return w
}

func expectOpen(t *testing.T, d *disk.Disk, slot int, state string, records ...string) *wal.Wal {
	t.Helper()
	w, s, l, err := wal.Open(d, slot)
	if w == nil || err != nil {
		t.Fatalf("Open(.., %d) = %v, %v", slot, w, err)
	}
	if s != state || !slices.Equal(l, records) {
		t.Errorf("Open(.., %d): %q, %q, want %q, %q", slot, s, l, state, records)
	}
	return w
}

func expectNoOpen(t *testing.T, d *disk.Disk, slot int, want api.Errno) {
	t.Helper()
	w, s, l, err := wal.Open(d, slot)
	if w != nil || s != "" || len(l) != 0 {
		t.Errorf("Open(.., %d): %v, %q, %q beside an error", slot, w, s, l)
	}
	expectFault(t, err, "open", want)
}

// An error of the right type, with the right call, number and text; a nil error if OK is wanted.
func expectFault(t *testing.T, err error, call string, want api.Errno) {
	t.Helper()
	if want == api.OK {
		if err != nil {
			t.Errorf("%s: %v", call, err)
		}
		return
	}
	var f *wal.Fault
	var e api.Errno
	if !errors.As(err, &f) || f.Call != call || !errors.Is(err, want) || !errors.As(err, &e) || e != want {
		t.Errorf("%s: %#v, want error %d", call, err, want)
		return
	}
	if _, ok := err.(*wal.Fault); !ok || err.Error() != fmt.Sprintf("%s: error %d", call, want) {
		t.Errorf("%s: %T %q, want error %d", call, err, err, want)
	}
}

func expectAppend(t *testing.T, w *wal.Wal, r string, want api.Errno) {
	t.Helper()
	expectFault(t, w.Append(r), "append", want)
}

func expectCheckpoint(t *testing.T, w *wal.Wal, s string, want api.Errno) {
	t.Helper()
	expectFault(t, w.Checkpoint(s), "checkpoint", want)
}

func expectCounts(t *testing.T, w *wal.Wal, room, number, generation int) {
	t.Helper()
	if w.Room() != room || w.Number() != number || w.Generation() != generation {
		t.Errorf("Room, Number, Generation: %d, %d, %d, want %d, %d, %d", w.Room(), w.Number(), w.Generation(), room, number, generation)
	}
}

// The chapter's examples.
func TestExamples(t *testing.T) {
	d := disk.New(12)
	w := expectOpen(t, d, 2, "")
	expectCounts(t, w, 192, 1, 0)
	expectAppend(t, w, text(40), api.OK)
	expectCounts(t, w, 96, 2, 0)
	expectCheckpoint(t, w, "x", api.OK)
	expectCounts(t, w, 192, 2, 1)
	l := image(t, d)
	if l[2] != slotHead(1, 1, 3, 2) || l[3] != padded("x") {
		t.Errorf("slot 1: %q, %q", l[2], l[3])
	}
}

// P6.1: which logs fit, and which do not.
func TestFits(t *testing.T) {
	for _, n := range []int{1, 2, 6, 7, 8, 9, 12, 13, 100, 4095, 4096} {
		d := disk.New(n)
		for slot := -2; slot <= n+2; slot++ {
			if slot >= 2 && n-2*slot >= 3 {
				w := expectOpen(t, d, slot, "")
				expectCounts(t, w, 32*(n-2*slot-2), 1, 0)
			} else {
				expectNoOpen(t, d, slot, api.ErrArg)
			}
		}
		for _, slot := range []int{math.MinInt, math.MinInt + 2, -1 << 62, -1 << 32, 1 << 31, 1 << 32, 1<<32 + 2, 1 << 62, 1<<62 + 2, -1<<63 + 2, math.MaxInt} {
			expectNoOpen(t, d, slot, api.ErrArg)
		}
	}
}

// P6.1: a nil disk, one without power, and which error is first.
func TestOpenRefuses(t *testing.T) {
	for _, slot := range []int{-1, 0, 2, 3} {
		expectNoOpen(t, nil, slot, api.ErrArg)
	}
	d := disk.New(12)
	d.Arm(0)
	d.Flush()
	expectNoOpen(t, d, 2, api.ErrDown)
	expectNoOpen(t, d, 4, api.ErrDown)
	expectNoOpen(t, d, 5, api.ErrArg)
	expectNoOpen(t, d, 1, api.ErrArg)
	d.Crash()
	expectOpen(t, d, 2, "")
}

// P6.1: Open neither writes nor flushes: not even the last step of an armed power is used up.
func TestOpenWritesNothing(t *testing.T) {
	d := disk.New(12)
	w := mustOpen(t, d, 2)
	expectCheckpoint(t, w, "state", api.OK)
	expectAppend(t, w, "one", api.OK)
	if e := d.Write(11, "loose"); e != api.OK {
		t.Fatal(e)
	}
	before := image(t, d)
	d.Arm(0)
	for range 3 {
		expectOpen(t, d, 2, "state", "one")
	}
	if d.Down() || d.Loose() != 1 || !slices.Equal(image(t, d), before) {
		t.Errorf("Open wrote: %t, %d", d.Down(), d.Loose())
	}
}

// steps tells what a call does to a disk, one step a time, by cutting the power after each one.
func steps(t *testing.T, fresh func() *disk.Disk, call func(d *disk.Disk) error) []string {
	t.Helper()
	var list []string
	loose := 0
	for n := 1; ; n++ {
		cut := func(keep ...bool) ([]string, int, error) {
			d := fresh()
			d.Arm(n)
			err := call(d)
			left := d.Loose()
			d.Crash(keep...)
			return image(t, d), left, err
		}
		without, left, err := cut()
		if left != loose+1 {
			list = append(list, "flush")
		} else {
			keep := make([]bool, left)
			keep[loose] = true
			whole, _, _ := cut(keep...)
			for i := range whole {
				if whole[i] != without[i] {
					list = append(list, fmt.Sprintf("%d=%q", i, whole[i]))
				}
			}
		}
		if err == nil {
			return list
		}
		loose = left
	}
}

func step(i int, s string) string { return fmt.Sprintf("%d=%q", i, padded(s)) }

func expectSteps(t *testing.T, got []string, want ...string) {
	t.Helper()
	if !slices.Equal(got, want) {
		t.Errorf("steps:\n%s\nwant:\n%s", strings.Join(got, "\n"), strings.Join(want, "\n"))
	}
}

// P6.2: what Append writes, and in which order, for records of every number of sectors, also around the ring's end.
func TestAppendSteps(t *testing.T) {
	const slot, size = 3, 12 // a ring of 6, from sector 6 on
	for _, at := range []int{0, 1, 3, 4, 5} {
		for _, n := range []int{0, 1, 31, 32, 33, 63, 64, 65, 96, 97, 128} {
			fresh := func() *disk.Disk {
				return diskOf(t, size, with(junk(size), 0, slotHead(2, 0, at, 7)))
			}
			got := steps(t, fresh, func(d *disk.Disk) error { return mustOpen(t, d, slot).Append(text(n)) })
			place := func(steps int) int { return 2*slot + (at+steps)%6 }
			var want []string
			k := 0
			for ; 32*k < n; k++ {
				want = append(want, step(place(1+k), text(n)[32*k:min(32*k+32, n)]))
			}
			want = append(want, step(place(1+k), ""), "flush", step(place(0), recordHead(7, n)), "flush")
			expectSteps(t, got, want...)
		}
	}
}

// P6.3: what Checkpoint writes, and in which order, to either slot.
func TestCheckpointSteps(t *testing.T) {
	const slot, size = 3, 11
	for _, generation := range []int{0, 1, 2, 9, 1<<32 + 1, api.MaxNum - 1} {
		for _, n := range []int{0, 1, 32, 33, 64} {
			fresh := func() *disk.Disk {
				m := junk(size)
				if generation > 0 {
					m[generation%2*slot] = slotHead(generation, 0, 4, 300)
				} else { // a log without a slot, that must come to the same position
					m[6] = recordHead(1, 65)
				}
				return diskOf(t, size, m)
			}
			got := steps(t, fresh, func(d *disk.Disk) error { return mustOpen(t, d, slot).Checkpoint(text(n)) })
			number := 300
			if generation == 0 {
				number = 2
			}
			first := (generation + 1) % 2 * slot
			var want []string
			for k := 0; 32*k < n; k++ {
				want = append(want, step(first+1+k, text(n)[32*k:min(32*k+32, n)]))
			}
			want = append(want, "flush", step(first, slotHead(generation+1, n, 4, number)), "flush")
			expectSteps(t, got, want...)
		}
	}
}

// P6.2: the errors at the edges of length and room, none of which changes anything, and a record after them.
func TestAppendRefuses(t *testing.T) {
	for m := 3; m <= 9; m++ {
		for used := 1; used < m; used++ {
			d := disk.New(4 + m)
			w := mustOpen(t, d, 2)
			expectAppend(t, w, text(32*(m-2)+1), api.ErrLong)
			expectAppend(t, w, text(32*(used-1)), api.OK)
			free := m - used
			room := 32 * (free - 2)
			if free < 2 {
				room = -1
			}
			before := image(t, d)
			expectCounts(t, w, room, 2, 0)
			expectAppend(t, w, text(32*(m-2)+1), api.ErrLong)
			expectAppend(t, w, text(32*m), api.ErrLong)
			expectAppend(t, w, text(32*(m-2)), api.ErrFull)
			expectAppend(t, w, text(room+1), api.ErrFull)
			expectCounts(t, w, room, 2, 0)
			if !slices.Equal(image(t, d), before) || d.Loose() != 0 {
				t.Errorf("a refused record was written")
			}
			if room >= 0 {
				expectAppend(t, w, text(room), api.OK)
				expectCounts(t, w, -1, 3, 0)
				expectAppend(t, w, "", api.ErrFull)
				expectOpen(t, d, 2, "", text(32*(used-1)), text(room))
			}
		}
	}
}

// P6.3: states up to the length of a slot, and one byte more.
func TestCheckpointRefuses(t *testing.T) {
	for slot := 2; slot <= 5; slot++ {
		d := disk.New(2*slot + 3)
		w := mustOpen(t, d, slot)
		longest := text(32 * (slot - 1))
		expectAppend(t, w, "r", api.OK)
		before := image(t, d)
		expectCheckpoint(t, w, longest+"x", api.ErrLong)
		expectCheckpoint(t, w, text(5000), api.ErrLong)
		expectCounts(t, w, -1, 2, 0)
		if !slices.Equal(image(t, d), before) || d.Loose() != 0 {
			t.Errorf("a refused state was written")
		}
		expectOpen(t, d, slot, "", "r")
		for generation := 1; generation <= 4; generation++ {
			s := longest[generation-1:]
			expectCheckpoint(t, w, s, api.OK)
			expectCounts(t, w, 32, 2, generation)
			expectCounts(t, expectOpen(t, d, slot, s), 32, 2, generation)
		}
		expectCheckpoint(t, w, "", api.OK)
		expectOpen(t, d, slot, "")
	}
}

// P6.1: headers of slots, right ones and such as have one thing wrong.
func TestSlots(t *testing.T) {
	const slot, size = 3, 12 // a ring of 6
	state := text(64)
	open := func(at int, head string) *disk.Disk {
		m := map[int]string{at: head, at + 1: state[:32], at + 2: state[32:]}
		return diskOf(t, size, m)
	}
	for _, c := range []struct{ at, generation, length, position, number int }{
		{3, 1, 0, 0, 1},
		{3, 1, 64, 5, 1},
		{0, 2, 33, 3, api.MaxNum},
		{3, 3, 1, 0, api.MaxNum - 1},
		{0, api.MaxNum, 32, 5, 255},
		{3, api.MaxNum - 1, 64, 1, 256},
	} {
		d := open(c.at, slotHead(c.generation, c.length, c.position, c.number))
		w := expectOpen(t, d, slot, state[:c.length])
		expectCounts(t, w, 128, c.number, c.generation)
	}
	for _, c := range []struct{ at, generation, length, position, number int }{
		{0, 0, 1, 0, 2},
		{3, 0, 1, 0, 2},
		{0, 1, 1, 0, 2},
		{3, 2, 1, 0, 2},
		{3, api.MaxNum, 1, 0, 2},
		{3, api.MaxNum + 1, 1, 0, 2},
		{0, api.MaxNum + 2, 1, 0, 2},
		{3, math.MaxInt, 1, 0, 2},
		{0, math.MinInt, 1, 0, 2}, // 2^63
		{3, -1, 1, 0, 2},          // 2^64 - 1
		{3, 1, 65, 0, 2},
		{3, 1, math.MaxUint32, 0, 2},
		{3, 1, 1, 6, 2},
		{3, 1, 1, math.MaxUint32, 2},
		{3, 1, 1, 0, 0},
		{3, 1, 1, 0, api.MaxNum + 1},
		{3, 1, 1, 0, -1},
		{3, 1, 1, 0, math.MinInt},
	} {
		d := open(c.at, slotHead(c.generation, c.length, c.position, c.number))
		expectCounts(t, expectOpen(t, d, slot, ""), 128, 1, 0)
	}
	right := slotHead(1, 1, 2, 3)
	expectOpen(t, open(3, right), slot, "a")
	for i := 25; i < sector; i++ { // bytes after the header's numbers
		expectOpen(t, open(3, right[:i]+"\x01"+right[i+1:]), slot, "")
	}
	for _, first := range []string{"R", "s", "\x00", "\xff"} {
		expectOpen(t, open(3, first+right[1:]), slot, "")
	}
}

// P6.1: of two valid slots the greater generation counts; a slot that is not valid never does.
func TestCurrentSlot(t *testing.T) {
	const slot, size = 2, 9
	for _, c := range []struct {
		zero, one  string
		state      string
		generation int
	}{
		{slotHead(2, 4, 0, 1), slotHead(1, 3, 0, 1), "zero", 2},
		{slotHead(2, 4, 0, 1), slotHead(3, 3, 0, 1), "one", 3},
		{slotHead(2, 4, 0, 1), slotHead(1<<20+1, 3, 0, 1), "one", 1<<20 + 1},
		{slotHead(api.MaxNum, 4, 0, 1), slotHead(api.MaxNum-1, 3, 0, 1), "zero", api.MaxNum},
		{slotHead(4, 33, 0, 1), slotHead(3, 3, 0, 1), "one", 3},
		{slotHead(2, 4, 0, 1), slotHead(3, 3, 5, 1), "zero", 2},
		{slotHead(5, 4, 0, 1), slotHead(4, 3, 0, 1), "", 0},
	} {
		d := diskOf(t, size, map[int]string{0: c.zero, 1: "zero", 2: c.one, 3: "one"})
		expectCounts(t, expectOpen(t, d, slot, c.state), 96, 1, c.generation)
	}
}

// P6.1: where the records end: no header, another number, other bytes behind it.
func TestRecordsEnd(t *testing.T) {
	const slot, size = 2, 12 // a ring of 8, from sector 4 on; records 5 (one sector) and 6
	disks := func(second string) *disk.Disk {
		return diskOf(t, size, map[int]string{
			0: slotHead(2, 5, 6, 5), 1: "state",
			10: recordHead(5, 3), 11: "one",
			4: second, 5: text(32), 6: text(64)[32:],
			7: recordHead(7, 0), 8: recordHead(9, 0),
		})
	}
	w := expectOpen(t, disks(recordHead(6, 40)), slot, "state", "one", text(40), "")
	expectCounts(t, w, 0, 8, 2)
	wrong := []string{
		"", padded("R"), recordHead(5, 40), recordHead(7, 40), recordHead(6+1<<32, 40), recordHead(-1, 40),
		recordHead(math.MinInt+6, 40), "S" + recordHead(6, 40)[1:], "r" + recordHead(6, 40)[1:], slotHead(6, 0, 0, 0),
	}
	for i := 13; i < sector; i++ {
		wrong = append(wrong, recordHead(6, 40)[:i]+"\x52"+recordHead(6, 40)[i+1:])
	}
	for _, head := range wrong {
		w := expectOpen(t, disks(head), slot, "state", "one")
		expectCounts(t, w, 128, 6, 2)
	}
}

// P6.1: records never occupy the whole ring, however long a header says that they are.
func TestRecordsFit(t *testing.T) {
	const slot, size = 2, 10 // a ring of 6, from sector 4 on
	for _, c := range []struct{ length, count int }{
		{0, 1}, {32, 1}, {96, 1}, {97, 0}, {128, 0}, {129, 0}, {160, 0}, {161, 0}, {1 << 16, 0}, {1 << 31, 0}, {math.MaxUint32, 0},
	} {
		m := map[int]string{0: slotHead(2, 0, 3, 1), 7: recordHead(1, 0), 8: recordHead(2, c.length)}
		want := []string{""}
		for range c.count {
			want = append(want, strings.Repeat("\x00", c.length))
		}
		expectOpen(t, diskOf(t, size, m), slot, "", want...)
	}
	m := map[int]string{4: recordHead(1, 128)} // five of six
	expectCounts(t, expectOpen(t, diskOf(t, size, m), slot, "", strings.Repeat("\x00", 128)), -1, 2, 0)
	m = map[int]string{4: recordHead(1, 129)} // six of six
	expectCounts(t, expectOpen(t, diskOf(t, size, m), slot, ""), 128, 1, 0)
	m = map[int]string{}
	for i := range 6 {
		m[4+i] = recordHead(1+i, 0)
	}
	expectCounts(t, expectOpen(t, diskOf(t, size, m), slot, "", "", "", "", "", ""), -1, 6, 0)
}

// P6.2 and P6.3: the greatest number and the greatest generation.
func TestGreatestNumbers(t *testing.T) {
	d := diskOf(t, 12, map[int]string{0: slotHead(2, 0, 0, api.MaxNum)})
	w := mustOpen(t, d, 2)
	expectCounts(t, w, 192, api.MaxNum, 2)
	expectCheckpoint(t, w, "s", api.OK)
	expectAppend(t, w, "last", api.OK)
	for range 2 {
		expectCounts(t, w, 128, api.MaxNum+1, 3)
		expectAppend(t, w, "", api.ErrFull)
		expectAppend(t, w, text(193), api.ErrLong)
		expectCheckpoint(t, w, "", api.ErrFull)
		expectCheckpoint(t, w, text(33), api.ErrLong)
		w = expectOpen(t, d, 2, "s", "last")
	}
	// the definition of the records bounds no number but the slot's: one beyond the greatest, that no Append writes, is read
	d = diskOf(t, 12, map[int]string{0: slotHead(2, 0, 0, api.MaxNum), 4: recordHead(api.MaxNum, 0), 5: recordHead(api.MaxNum+1, 0)})
	w = expectOpen(t, d, 2, "", "", "")
	expectCounts(t, w, 128, api.MaxNum+2, 2)
	expectAppend(t, w, "", api.ErrFull)
	expectCheckpoint(t, w, "", api.ErrFull)

	d = diskOf(t, 12, map[int]string{2: slotHead(api.MaxNum-1, 0, 0, 5)})
	w = mustOpen(t, d, 2)
	expectCheckpoint(t, w, "s", api.OK)
	for range 2 {
		expectCounts(t, w, 192, 5, api.MaxNum)
		expectCheckpoint(t, w, "t", api.ErrFull)
		expectCheckpoint(t, w, text(33), api.ErrLong)
		w = expectOpen(t, d, 2, "s")
	}
	expectAppend(t, w, "r", api.OK)
	expectOpen(t, d, 2, "s", "r")
}

// P6.2 and P6.3: after a refusal by the disk the log is out of use, whatever becomes of the disk; its counts stay.
func TestDown(t *testing.T) {
	for _, first := range []string{"append", "checkpoint"} {
		d := disk.New(12)
		w := mustOpen(t, d, 2)
		expectCheckpoint(t, w, "s", api.OK)
		expectAppend(t, w, "one", api.OK)
		d.Arm(2)
		if first == "append" {
			expectAppend(t, w, "two", api.ErrDown)
		} else {
			expectCheckpoint(t, w, "two", api.ErrDown)
		}
		for range 2 {
			expectAppend(t, w, "three", api.ErrDown)
			expectAppend(t, w, text(193), api.ErrDown)
			expectAppend(t, w, text(192), api.ErrDown)
			expectCheckpoint(t, w, "three", api.ErrDown)
			expectCheckpoint(t, w, text(33), api.ErrDown)
			expectCounts(t, w, 128, 2, 1)
			d.Crash()
		}
		if d.Loose() != 0 {
			t.Errorf("a log out of use wrote")
		}
		w = expectOpen(t, d, 2, "s", "one")
		expectAppend(t, w, "two", api.OK)
	}
}

// P6.2 and P6.3: a call that writes nothing does not learn that the power is off; and other errors leave the log in use.
func TestOtherErrorsComeFirst(t *testing.T) {
	d := disk.New(12)
	w := mustOpen(t, d, 2)
	expectAppend(t, w, text(150), api.OK)
	d.Arm(0)
	d.Flush()
	expectAppend(t, w, text(193), api.ErrLong)
	expectAppend(t, w, text(1), api.ErrFull)
	expectCheckpoint(t, w, text(33), api.ErrLong)
	d.Crash()
	expectCheckpoint(t, w, "s", api.OK)
	expectAppend(t, w, "r", api.OK)
	expectOpen(t, d, 2, "s", "r")
}

// A crash between two calls takes nothing away, and the log stays in use: each call ends with a flush.
func TestCrashBetweenCalls(t *testing.T) {
	d := disk.New(10)
	w := mustOpen(t, d, 3)
	for i := range 20 {
		expectCheckpoint(t, w, fmt.Sprint("state", i), api.OK)
		d.Crash()
		expectAppend(t, w, fmt.Sprint("record", i), api.OK)
		d.Crash()
		expectOpen(t, d, 3, fmt.Sprint("state", i), fmt.Sprint("record", i))
	}
}

func TestNilWal(t *testing.T) {
	var w *wal.Wal
	for _, s := range []string{"", "x", text(200000)} {
		expectAppend(t, w, s, api.ErrArg)
		expectCheckpoint(t, w, s, api.ErrArg)
	}
	expectCounts(t, w, -1, 0, 0)
}

// P1 and the section 'Functions': the text of a fault, what it wraps, and that none of them panics.
func TestFault(t *testing.T) {
	other := errors.New("other")
	f := &wal.Fault{Call: "open", Err: other}
	if f.Error() != "open: other" || f.Unwrap() != other || !errors.Is(f, other) || errors.Is(f, api.ErrArg) {
		t.Errorf("%q, %v", f.Error(), f.Unwrap())
	}
	f = &wal.Fault{Call: "append", Err: &wal.Fault{Call: "open", Err: api.ErrDown}}
	if f.Error() != "append: open: error 7" || !errors.Is(f, api.ErrDown) {
		t.Errorf("%q", f.Error())
	}
	f = &wal.Fault{Call: "open"}
	if f.Error() != "open: " || f.Unwrap() != nil {
		t.Errorf("%q, %v", f.Error(), f.Unwrap())
	}
	f = nil
	if f.Error() != "" || f.Unwrap() != nil {
		t.Errorf("%q, %v", f.Error(), f.Unwrap())
	}
}

// P6.1 and R1: two logs on two disks know nothing of each other, and a list that Open returned is the caller's.
func TestNothingShared(t *testing.T) {
	d, other := disk.New(12), disk.New(12)
	w, v := mustOpen(t, d, 2), mustOpen(t, other, 2)
	expectAppend(t, w, "r", api.OK)
	_, _, l, _ := wal.Open(d, 2)
	l[0] = "changed"
	expectOpen(t, d, 2, "", "r")
	expectCounts(t, v, 192, 1, 0)
	expectOpen(t, other, 2, "")
}
