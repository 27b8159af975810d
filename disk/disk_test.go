package disk_test

import (
	"fmt"
	"math"
	"math/rand"
	"slices"
	"strings"
	"testing"

	"counterfoil/api"
	"counterfoil/disk"
)

var zeros = strings.Repeat("\x00", api.Sector)

func padded(s string) string { return s + zeros[len(s):] }

// Numbers that are never sectors of a disk of that size.
func wrongSectors(size int) []int {
	return []int{math.MinInt, math.MinInt32, -size, -1, size, size + 1, 2*size + 1, 1 << 32, 1<<32 + 1, math.MaxInt}
}

func expectRead(t *testing.T, d *disk.Disk, i int, want string) {
	t.Helper()
	if s, e := d.Read(i); s != padded(want) || e != api.OK {
		t.Errorf("Read(%d) = %q, %d, want %q", i, s, e, padded(want))
	}
}

func expectNoRead(t *testing.T, d *disk.Disk, i int, want api.Errno) {
	t.Helper()
	if s, e := d.Read(i); s != "" || e != want {
		t.Errorf("Read(%d) = %q, %d, want error %d", i, s, e, want)
	}
}

func expectWrite(t *testing.T, d *disk.Disk, i int, s string, want api.Errno) {
	t.Helper()
	if e := d.Write(i, s); e != want {
		t.Errorf("Write(%d, %q) = %d, want %d", i, s, e, want)
	}
}

func expectFlush(t *testing.T, d *disk.Disk, want api.Errno) {
	t.Helper()
	if e := d.Flush(); e != want {
		t.Errorf("Flush() = %d, want %d", e, want)
	}
}

func expectLoose(t *testing.T, d *disk.Disk, want int) {
	t.Helper()
	if n := d.Loose(); n != want {
		t.Errorf("Loose() = %d, want %d", n, want)
	}
}

func expectDown(t *testing.T, d *disk.Disk, want bool) {
	t.Helper()
	if b := d.Down(); b != want {
		t.Errorf("Down() = %t, want %t", b, want)
	}
}

// A disk of two sectors, sector 0 with a durable "a".
func diskWithA(t *testing.T) *disk.Disk {
	t.Helper()
	d := disk.New(2)
	expectWrite(t, d, 0, "a", api.OK)
	expectFlush(t, d, api.OK)
	return d
}

// The chapter's examples.
func TestExamples(t *testing.T) {
	d := diskWithA(t)
	expectWrite(t, d, 0, "b", api.OK)
	d.Crash()
	expectRead(t, d, 0, "a")

	d = diskWithA(t)
	expectWrite(t, d, 0, "b", api.OK)
	d.Crash(true)
	expectRead(t, d, 0, "b")

	d.Arm(1)
	expectWrite(t, d, 1, "x", api.OK)
	expectFlush(t, d, api.ErrDown)
	d.Crash(false)
	expectRead(t, d, 1, "")
}

// P5.1: the sizes there are, and disks full of zero bytes.
func TestSizes(t *testing.T) {
	for _, n := range []int{1, 2, 3, 100, api.MaxSectors - 1, api.MaxSectors} {
		d := disk.New(n)
		if d == nil || d.Size() != n {
			t.Fatalf("New(%d) has the size %d", n, d.Size())
		}
		for i := range n {
			expectRead(t, d, i, "")
		}
		expectLoose(t, d, 0)
		expectDown(t, d, false)
	}
	for _, n := range []int{math.MinInt, -1, 0, api.MaxSectors + 1, 1 << 32, 1<<32 + 1, math.MaxInt} {
		if disk.New(n) != nil {
			t.Errorf("New(%d) is a disk", n)
		}
	}
}

// P5.1 and P5.2: sectors that are not there can be neither read nor written.
func TestWrongSectors(t *testing.T) {
	for _, size := range []int{1, 2, 7, api.MaxSectors} {
		d := disk.New(size)
		for _, i := range wrongSectors(size) {
			expectNoRead(t, d, i, api.ErrArg)
			expectWrite(t, d, i, "x", api.ErrArg)
		}
		expectLoose(t, d, 0)
		expectRead(t, d, 0, "")
		expectRead(t, d, size-1, "")
	}
}

// P5.1 and P5.2: a sector holds what was written to it last, and its neighbours keep theirs.
func TestWritesAreRead(t *testing.T) {
	d := disk.New(api.MaxSectors)
	full := strings.Repeat("\xff", api.Sector)
	for _, i := range []int{0, 1, api.MaxSectors - 1} {
		expectWrite(t, d, i, full, api.OK)
		expectRead(t, d, i, full)
		expectWrite(t, d, i, fmt.Sprint(i), api.OK)
		expectRead(t, d, i, fmt.Sprint(i))
	}
	expectRead(t, d, 2, "")
	expectRead(t, d, api.MaxSectors-2, "")
	expectFlush(t, d, api.OK)
	for _, i := range []int{0, 1, api.MaxSectors - 1} {
		expectRead(t, d, i, fmt.Sprint(i))
	}
}

// P5.2: every length up to a sector is padded over what was there, and a longer string is refused.
func TestLengths(t *testing.T) {
	d := disk.New(1)
	for n := range api.Sector + 1 {
		expectWrite(t, d, 0, strings.Repeat("z", api.Sector), api.OK)
		s := strings.Repeat("y", n)
		expectWrite(t, d, 0, s, api.OK)
		expectRead(t, d, 0, s)
	}
	loose := d.Loose()
	for _, n := range []int{api.Sector + 1, 2 * api.Sector, 256 + 1, api.MaxText + 1} {
		expectWrite(t, d, 0, strings.Repeat("x", n), api.ErrLong)
	}
	expectRead(t, d, 0, strings.Repeat("y", api.Sector))
	expectLoose(t, d, loose)
}

// P5.2: of several errors of a write the first one is told, and a write that is refused costs no power.
func TestOrderOfErrors(t *testing.T) {
	long := zeros + "x"
	d := disk.New(2)
	expectWrite(t, d, 2, long, api.ErrArg)
	d.Arm(0)
	expectWrite(t, d, -1, "x", api.ErrArg)
	expectWrite(t, d, 2, long, api.ErrArg)
	expectWrite(t, d, 0, long, api.ErrLong)
	expectNoRead(t, d, 2, api.ErrArg)
	expectDown(t, d, false)
	expectWrite(t, d, 0, "x", api.ErrDown)
	expectDown(t, d, true)
	expectWrite(t, d, 2, long, api.ErrDown)
	expectWrite(t, d, 0, long, api.ErrDown)
	expectNoRead(t, d, 2, api.ErrDown)
}

// P5.2: unflushed writes are counted one by one, until a flush.
func TestLoose(t *testing.T) {
	d := disk.New(3)
	for n := range 5 {
		expectLoose(t, d, n)
		expectWrite(t, d, 1, "same", api.OK)
	}
	expectWrite(t, d, 2, "", api.OK)
	expectLoose(t, d, 6)
	expectFlush(t, d, api.OK)
	expectLoose(t, d, 0)
	expectFlush(t, d, api.OK)
	expectWrite(t, d, 1, "same", api.OK)
	expectLoose(t, d, 1)
	d.Crash(true)
	expectLoose(t, d, 0)
}

// P5.2 and P5.3: a flush makes all writes durable, of a sector the last one.
func TestFlush(t *testing.T) {
	d := disk.New(2)
	expectWrite(t, d, 0, "a", api.OK)
	expectWrite(t, d, 1, "b", api.OK)
	expectWrite(t, d, 0, "c", api.OK)
	expectFlush(t, d, api.OK)
	d.Crash()
	expectRead(t, d, 0, "c")
	expectRead(t, d, 1, "b")
	d.Crash(false, true)
	expectRead(t, d, 0, "c")
	expectRead(t, d, 1, "b")
}

// P5.3: with n armed, exactly n writes and flushes are performed; reads and refused writes do not count.
func TestArm(t *testing.T) {
	for n := range 6 {
		d := disk.New(2)
		d.Arm(n)
		for k := range n {
			expectNoRead(t, d, 2, api.ErrArg)
			expectWrite(t, d, 2, "x", api.ErrArg)
			expectWrite(t, d, 0, zeros+"x", api.ErrLong)
			expectRead(t, d, 1, "")
			if k%2 == 1 {
				expectFlush(t, d, api.OK)
			} else {
				expectWrite(t, d, 0, fmt.Sprint(k), api.OK)
			}
			expectDown(t, d, false)
		}
		loose := d.Loose()
		expectWrite(t, d, 0, "over", api.ErrDown)
		expectDown(t, d, true)
		expectLoose(t, d, loose)
		expectNoRead(t, d, 0, api.ErrDown)
		expectFlush(t, d, api.ErrDown)
		expectWrite(t, d, 0, "over", api.ErrDown)
		expectLoose(t, d, loose)
	}
}

// P5.2 and P5.3: a write at which the power fails is not made, and a flush at which it fails makes nothing durable.
func TestFailing(t *testing.T) {
	d := diskWithA(t)
	expectWrite(t, d, 1, "b", api.OK)
	d.Arm(0)
	expectWrite(t, d, 0, "lost", api.ErrDown)
	expectLoose(t, d, 1)
	d.Crash(true, true)
	expectRead(t, d, 0, "a")
	expectRead(t, d, 1, "b")

	expectWrite(t, d, 0, "c", api.OK)
	d.Arm(0)
	expectFlush(t, d, api.ErrDown)
	expectLoose(t, d, 1)
	expectDown(t, d, true)
	d.Crash()
	expectRead(t, d, 0, "a")

	// a flush fails also where there is nothing to make durable
	d.Arm(0)
	expectFlush(t, d, api.ErrDown)
	expectDown(t, d, true)
}

// P5.3: arming again counts anew, and a negative number disarms.
func TestArmAgain(t *testing.T) {
	d := disk.New(1)
	d.Arm(1)
	expectWrite(t, d, 0, "a", api.OK)
	d.Arm(2)
	expectWrite(t, d, 0, "b", api.OK)
	expectFlush(t, d, api.OK)
	expectWrite(t, d, 0, "c", api.ErrDown)
	for _, n := range []int{-1, -2, math.MinInt32, math.MinInt} {
		d.Crash()
		d.Arm(1)
		d.Arm(n)
		for range 5 {
			expectWrite(t, d, 0, "d", api.OK)
			expectFlush(t, d, api.OK)
		}
	}
	d.Arm(math.MaxInt)
	for range 5 {
		expectFlush(t, d, api.OK)
	}
}

// P5.3: once the power is off, only a crash turns it on, and disarms it.
func TestOffUntilCrash(t *testing.T) {
	for _, n := range []int{-1, 0, 1, 100} {
		d := diskWithA(t)
		d.Arm(0)
		expectFlush(t, d, api.ErrDown)
		d.Arm(n)
		expectDown(t, d, true)
		expectNoRead(t, d, 0, api.ErrDown)
		expectFlush(t, d, api.ErrDown)
		expectWrite(t, d, 0, "x", api.ErrDown)
		d.Crash(true)
		expectDown(t, d, false)
		expectRead(t, d, 0, "a")
		for range n + 3 {
			expectFlush(t, d, api.OK)
		}
	}
	d := diskWithA(t)
	d.Arm(0)
	d.Crash()
	expectFlush(t, d, api.OK)
	if d.Size() != 2 {
		t.Errorf("behind a crash %d sectors", d.Size())
	}
}

// P5.3: each unflushed write is decided on its own, in their order; a missing decision discards.
func TestCrashDecides(t *testing.T) {
	for _, c := range []struct {
		keep []bool
		zero string
		one  string
	}{
		{nil, "a", ""},
		{[]bool{}, "a", ""},
		{[]bool{false, false, false}, "a", ""},
		{[]bool{true}, "b", ""},
		{[]bool{true, true}, "b", "c"},
		{[]bool{false, true}, "a", "c"},
		{[]bool{false, false, true}, "d", ""},
		{[]bool{true, false, true}, "d", ""},
		{[]bool{true, true, true}, "d", "c"},
		{[]bool{true, true, false, true, true}, "b", "c"},
		{[]bool{false, false, false, true}, "a", ""},
	} {
		d := diskWithA(t)
		expectWrite(t, d, 0, "b", api.OK)
		expectWrite(t, d, 1, "c", api.OK)
		expectWrite(t, d, 0, "d", api.OK)
		keep := slices.Clone(c.keep)
		d.Crash(keep...)
		if !slices.Equal(keep, c.keep) {
			t.Errorf("Crash(%v) changed its argument to %v", c.keep, keep)
		}
		for range 2 { // what was kept is durable, what was discarded does not come back
			expectRead(t, d, 0, c.zero)
			expectRead(t, d, 1, c.one)
			expectLoose(t, d, 0)
			d.Crash(true, true, true)
		}
	}
}

// A nil disk has nothing and does nothing.
func TestNil(t *testing.T) {
	var d *disk.Disk
	d.Arm(3)
	d.Arm(-1)
	d.Crash()
	d.Crash(true)
	if d.Size() != 0 {
		t.Errorf("Size() = %d", d.Size())
	}
	expectLoose(t, d, 0)
	expectDown(t, d, true)
	expectFlush(t, d, api.ErrDown)
	for _, i := range []int{-1, 0, 1} {
		expectNoRead(t, d, i, api.ErrDown)
		expectWrite(t, d, i, "x", api.ErrDown)
		expectWrite(t, d, i, zeros+"x", api.ErrDown)
	}
}

// R4: two disks know nothing of each other.
func TestTwoDisks(t *testing.T) {
	d, other := disk.New(2), disk.New(2)
	d.Arm(1)
	expectWrite(t, d, 0, "x", api.OK)
	expectFlush(t, d, api.ErrDown)
	expectDown(t, other, false)
	expectLoose(t, other, 0)
	expectRead(t, other, 0, "")
	expectFlush(t, other, api.OK)
}

// model tells what a disk holds from the list of its writes alone: those that are discarded leave it.
type model struct {
	size   int
	writes []string // one for each write that stands: its sector, then its content
	firm   int      // so many of them, from the first on, are durable
	left   int      // below 0: not armed
	off    bool
}

func (m *model) read(i int) (string, api.Errno) {
	if m.off {
		return "", api.ErrDown
	}
	if i < 0 || i >= m.size {
		return "", api.ErrArg
	}
	for _, w := range slices.Backward(m.writes) {
		if at, s, _ := strings.Cut(w, "="); at == fmt.Sprint(i) {
			return padded(s), api.OK
		}
	}
	return zeros, api.OK
}

func (m *model) step() api.Errno {
	m.off = m.off || m.left == 0
	if m.off {
		return api.ErrDown
	}
	m.left = max(m.left-1, -1)
	return api.OK
}

func (m *model) write(i int, s string) api.Errno {
	if _, e := m.read(i); e != api.OK {
		return e
	}
	if len(s) > api.Sector {
		return api.ErrLong
	}
	if e := m.step(); e != api.OK {
		return e
	}
	m.writes = append(m.writes, fmt.Sprintf("%d=%s", i, s))
	return api.OK
}

func (m *model) flush() api.Errno {
	e := m.step()
	if e == api.OK {
		m.firm = len(m.writes)
	}
	return e
}

func (m *model) crash(keep []bool) {
	stays := slices.Clone(m.writes[:m.firm])
	for k, w := range m.writes[m.firm:] {
		if k < len(keep) && keep[k] {
			stays = append(stays, w)
		}
	}
	m.writes, m.firm, m.left, m.off = stays, len(stays), -1, false
}

// P5.1 to P5.4: long rows of calls, held against the model after each call.
func TestAgainstModel(t *testing.T) {
	for seed := range int64(60) {
		r := rand.New(rand.NewSource(seed))
		m := &model{size: 1 + r.Intn(4), left: -1}
		d := disk.New(m.size)
		for n := range 120 {
			name, got, want := oneCall(r, d, m, n)
			if got != want {
				t.Fatalf("seed %d, call %d, %s = %d, want %d", seed, n, name, got, want)
			}
			if d.Down() != m.off || d.Loose() != len(m.writes)-m.firm || d.Size() != m.size {
				t.Fatalf("seed %d, call %d, %s: %t, %d, %d", seed, n, name, d.Down(), d.Loose(), d.Size())
			}
			for i := -1; i <= m.size; i++ {
				s, e := d.Read(i)
				if ws, we := m.read(i); s != ws || e != we {
					t.Fatalf("seed %d, call %d, %s: sector %d has %q, %d, want %q, %d", seed, n, name, i, s, e, ws, we)
				}
			}
		}
	}
}

// One call on both, chosen by r; its name, and what each of them answered.
func oneCall(r *rand.Rand, d *disk.Disk, m *model, n int) (string, api.Errno, api.Errno) {
	switch k := r.Intn(20); {
	case k < 10:
		i, s := r.Intn(m.size+2)-1, fmt.Sprint(n)+strings.Repeat("-", r.Intn(api.Sector))
		return fmt.Sprintf("Write(%d, %q)", i, s), d.Write(i, s), m.write(i, s)
	case k < 14:
		return "Flush()", d.Flush(), m.flush()
	case k < 17:
		left := r.Intn(6) - 1
		d.Arm(left)
		m.left = left
		return fmt.Sprintf("Arm(%d)", left), api.OK, api.OK
	}
	keep := make([]bool, r.Intn(8))
	for k := range keep {
		keep[k] = r.Intn(2) == 0
	}
	d.Crash(keep...)
	m.crash(keep)
	return fmt.Sprintf("Crash(%v)", keep), api.OK, api.OK
}
