package wal_test

import (
	"fmt"
	"math/rand"
	"slices"
	"testing"

	"counterfoil/api"
	"counterfoil/disk"
	"counterfoil/wal"
)

// held is what a log has.
type held struct {
	state      string
	records    []string
	number     int
	generation int
}

// deed is one call: a checkpoint or an append.
type deed struct {
	checkpoint bool
	text       string
}

func (x deed) String() string { return fmt.Sprintf("%s(%q)", x.call(), x.text) }

func (h held) String() string {
	return fmt.Sprintf("%q %q %d %d", h.state, h.records, h.number, h.generation)
}

func (x deed) call() string {
	if x.checkpoint {
		return "checkpoint"
	}
	return "append"
}

func (x deed) on(w *wal.Wal) error {
	if x.checkpoint {
		return w.Checkpoint(x.text)
	}
	return w.Append(x.text)
}

func (h held) after(x deed) held {
	if x.checkpoint {
		return held{state: x.text, number: h.number, generation: h.generation + 1}
	}
	h.records = append(slices.Clone(h.records), x.text)
	h.number++
	return h
}

func (h held) free(m int) int {
	for _, r := range h.records {
		m -= 1 + (len(r)+31)/32
	}
	return m
}

// answer tells what the deed must return on a log of m positions with slots of that size, as long as the power lasts.
func (h held) answer(x deed, m, slot int) api.Errno {
	switch n := len(x.text); {
	case x.checkpoint && n > 32*(slot-1), !x.checkpoint && n > 32*(m-2):
		return api.ErrLong
	case !x.checkpoint && 1+(n+31)/32 > h.free(m)-1:
		return api.ErrFull
	}
	return api.OK
}

func (h held) room(m int) int {
	if h.free(m) < 2 {
		return -1
	}
	return 32 * (h.free(m) - 2)
}

func (h held) same(o held) bool {
	return h.state == o.state && slices.Equal(h.records, o.records) && h.number == o.number && h.generation == o.generation
}

func opened(t *testing.T, d *disk.Disk, slot int) (*wal.Wal, held) {
	t.Helper()
	w, s, l, err := wal.Open(d, slot)
	if err != nil {
		t.Fatalf("Open: %v", err)
	}
	h := held{s, l, w.Number(), w.Generation()}
	if w.Room() != h.room(d.Size()-2*slot) {
		t.Fatalf("Room() = %d of %d records", w.Room(), len(l))
	}
	return w, h
}

// someText makes records and states of all lengths, some of which look like headers that a log may come upon.
func someText(r *rand.Rand, h held, most int) string {
	n := r.Intn(most + 1)
	if r.Intn(4) == 0 {
		n = n / 32 * 32
	}
	if r.Intn(2) == 0 {
		return text(n)
	}
	s := ""
	for len(s) < n {
		switch r.Intn(3) {
		case 0:
			s += slotHead(h.generation+r.Intn(4), r.Intn(32), 0, h.number+r.Intn(3))
		default:
			s += recordHead(h.number+r.Intn(5), r.Intn(40))
		}
	}
	return s[:n]
}

func someDeed(r *rand.Rand, h held, m, slot int) deed {
	if r.Intn(3) == 0 {
		return deed{true, someText(r, h, 32*(slot-1))}
	}
	return deed{false, someText(r, h, min(32*(m-2), max(h.room(m), 0)+20))}
}

// P6.5: the power is cut after each step of a call, and each choice of the unflushed writes is kept; the log is what it was before the call or after it, and works on.
func TestEveryCut(t *testing.T) {
	for seed := range int64(25) {
		r := rand.New(rand.NewSource(seed))
		m, slot := 3+r.Intn(3), 2+r.Intn(2)
		var row []deed
		h := held{number: 1}
		for range 7 {
			x := someDeed(r, h, m, slot)
			if h.answer(x, m, slot) == api.OK {
				cutEverywhere(t, m, slot, row, x, h)
				row = append(row, x)
				h = h.after(x)
			}
		}
	}
}

func cutEverywhere(t *testing.T, m, slot int, row []deed, x deed, before held) {
	t.Helper()
	for n := 0; ; n++ {
		for choice := 0; ; choice++ {
			d, err := doneThenCut(t, m, slot, row, x, n)
			if err == nil {
				if _, h := opened(t, d, slot); !h.same(before.after(x)) || d.Loose() != 0 {
					t.Fatalf("%v, then %v: %v", row, x, h)
				}
				return
			}
			expectFault(t, err, x.call(), api.ErrDown)
			if choice == 1<<d.Loose() {
				break
			}
			// once the header's write is made it alone is unflushed, and decides
			made := n == stepsOf(x)-1 && choice == 1
			d.Crash(bits(choice)...)
			afterCut(t, d, m, slot, before, x, made, fmt.Sprintf("%v, then %v cut at %d, kept %b", row, x, n, choice))
		}
	}
}

// stepsOf counts the writes and flushes of a call.
func stepsOf(x deed) int {
	n := (len(x.text)+31)/32 + 3
	if !x.checkpoint {
		n++
	}
	return n
}

func bits(choice int) []bool {
	var l []bool
	for ; choice > 0; choice >>= 1 {
		l = append(l, choice&1 == 1)
	}
	return l
}

// doneThenCut does a row of deeds on a new disk, and then one whose power is cut after n steps.
func doneThenCut(t *testing.T, m, slot int, row []deed, x deed, n int) (*disk.Disk, error) {
	t.Helper()
	d := disk.New(2*slot + m)
	w := mustOpen(t, d, slot)
	for _, y := range row {
		if err := y.on(w); err != nil {
			t.Fatalf("%v in %v: %v", y, row, err)
		}
	}
	d.Arm(n)
	err := x.on(w)
	return d, err
}

func afterCut(t *testing.T, d *disk.Disk, m, slot int, before held, x deed, made bool, what string) {
	t.Helper()
	want := before
	if made {
		want = before.after(x)
	}
	w, h := opened(t, d, slot)
	if !h.same(want) {
		t.Fatalf("%s: %v, want %v", what, h, want)
	}
	if _, again := opened(t, d, slot); !again.same(h) {
		t.Fatalf("%s: opened again %v, first %v", what, again, h)
	}
	for _, y := range []deed{{false, ""}, {true, "s"}, {false, text(32 * (m - 2))}, {true, ""}, {false, ""}} {
		e := h.answer(y, m, slot)
		if e == api.OK {
			h = h.after(y)
		}
		if err := y.on(w); (err == nil) != (e == api.OK) {
			t.Fatalf("%s: then %v: %v", what, y, err)
		}
		if _, now := opened(t, d, slot); !now.same(h) {
			t.Fatalf("%s: then %v: %v, want %v", what, y, now, h)
		}
	}
}

// P6.1 to P6.5: long rows of calls, cuts and crashes on one disk, held against what was answered.
func TestLongRows(t *testing.T) {
	for seed := range int64(200) {
		r := rand.New(rand.NewSource(seed))
		m, slot := 3+r.Intn(9), 2+r.Intn(3)
		d := disk.New(2*slot + m)
		w, h := opened(t, d, slot)
		for n := range 150 {
			x := someDeed(r, h, m, slot)
			if r.Intn(4) == 0 {
				d.Arm(r.Intn(stepsOf(x) + 1))
			}
			err := x.on(w)
			switch want := h.answer(x, m, slot); {
			case want != api.OK:
				expectFault(t, err, x.call(), want)
			case err == nil:
				h = h.after(x)
			default:
				d.Crash(bits(r.Intn(1 << 12))...)
				var now held
				if w, now = opened(t, d, slot); !now.same(h) && !now.same(h.after(x)) {
					t.Fatalf("seed %d, call %d, %v: %v, was %v", seed, n, x, now, h)
				}
				h = now
			}
			if w.Number() != h.number || w.Generation() != h.generation || w.Room() != h.room(m) {
				t.Fatalf("seed %d, call %d, %v: %d, %d, %d", seed, n, x, w.Number(), w.Generation(), w.Room())
			}
			if _, now := opened(t, d, slot); !now.same(h) {
				t.Fatalf("seed %d, call %d, %v: %v, want %v", seed, n, x, now, h)
			}
			d.Arm(-1)
		}
	}
}
