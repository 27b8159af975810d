package msg_test

import (
	"encoding/binary"
	"fmt"
	"math"
	"math/rand"
	"slices"
	"strings"
	"testing"

	"counterfoil/api"
	"counterfoil/msg"
)

const (
	limit        = 1 << 40 // the greatest number
	mostBranches = 64
	mostWrites   = 128
	full         = 1<<32 - 1 // the Mask of 32 blocks
)

func branch(epoch, at int) api.Branch { return api.Branch{Epoch: epoch, At: at} }

func path(l ...api.Branch) []api.Branch { return l }

func write(vol, block int, data string) api.Write {
	return api.Write{Vol: vol, Block: block, Data: data}
}

func writes(l ...api.Write) []api.Write { return l }

func bits(vol int, mask uint64) api.Bits { return api.Bits{Vol: vol, Mask: mask} }

// branches makes a line of n branches.
func branches(n int) []api.Branch {
	l := make([]api.Branch, n)
	for i := range l {
		l[i] = branch(2*i+1, i*i)
	}
	return l
}

// row makes n folded writes, of all blocks from the first volume on.
func row(n int) []api.Write {
	ws := make([]api.Write, n)
	for i := range ws {
		ws[i] = write(1+i/32, i%32, strings.Repeat("d", i%9))
	}
	return ws
}

func rightLines() map[string][]api.Branch {
	return map[string][]api.Branch{
		"no branch":           nil,
		"an empty list":       {},
		"the least":           {branch(1, 0)},
		"the greatest Epoch":  {branch(limit, 0)},
		"two":                 {branch(1, 0), branch(2, 5)},
		"At stays":            {branch(1, 0), branch(2, 0), branch(9, 0)},
		"the greatest At":     {branch(limit-1, 0), branch(limit, limit)},
		"63 branches":         branches(mostBranches - 1),
		"64 branches":         branches(mostBranches),
		"bytes of all widths": {branch(0x0102030405, 0), branch(0x0f02030405, 0x0807060504)},
	}
}

// wrongLines miss one condition each; those of them that no encoding has room for are the unheard ones.
func wrongLines() map[string][]api.Branch {
	return map[string][]api.Branch{
		"Epoch 0":              {branch(0, 0)},
		"Epoch 0 behind":       {branch(1, 0), branch(0, 0)},
		"Epoch too great":      {branch(limit+1, 0)},
		"Epoch far too great":  {branch(math.MaxInt, 0)},
		"the first At not 0":   {branch(1, 1)},
		"the same Epoch twice": {branch(1, 0), branch(1, 1)},
		"a falling Epoch":      {branch(3, 0), branch(2, 1)},
		"a falling At":         {branch(1, 0), branch(2, 5), branch(3, 4)},
		"At too great":         {branch(1, 0), branch(2, limit+1)},
		"At far too great":     {branch(1, 0), branch(2, math.MaxInt)},
		"65 branches":          branches(mostBranches + 1),
		"255 branches":         branches(255),
	}
}

func unheardLines() map[string][]api.Branch {
	return map[string][]api.Branch{
		"Epoch below 0":           {branch(-1, 0)},
		"the least Epoch":         {branch(math.MinInt, 0)},
		"the first At below 0":    {branch(1, -1)},
		"At below 0":              {branch(1, 0), branch(2, -1)},
		"256 branches":            branches(256),
		"257 branches":            branches(257),
		"256 and 64 branches":     branches(256 + mostBranches),
		"many branches":           branches(70000),
		"the first At far beyond": {branch(1, math.MinInt)},
	}
}

func rightWrites() map[string][]api.Write {
	return map[string][]api.Write{
		"none":             nil,
		"an empty list":    {},
		"the first block":  {write(1, 0, "")},
		"the last block":   {write(255, 31, "12345678")},
		"of one volume":    {write(2, 5, "x"), write(2, 6, "")},
		"of three volumes": {write(1, 31, "ab"), write(2, 0, "c"), write(200, 0, "\x00\xff")},
		"no text":          {write(7, 7, "\x00\x00\x00\x00\x00\x00\x00\x80")},
		"127 writes":       row(mostWrites - 1),
		"128 writes":       row(mostWrites),
		"the last 128":     lastWrites(),
	}
}

func lastWrites() []api.Write {
	ws := row(mostWrites)
	for i := range ws {
		ws[i].Vol += 251
		ws[i].Data = "12345678"
	}
	return ws
}

func wrongWrites() map[string][]api.Write {
	return map[string][]api.Write{
		"Vol 0":                    {write(0, 0, "a")},
		"Vol 0 ahead":              {write(0, 31, "a"), write(1, 0, "a")},
		"Block 32":                 {write(1, 32, "a")},
		"Block 32 behind":          {write(1, 0, "a"), write(1, 32, "a")},
		"Block 255":                {write(1, 255, "a")},
		"Block 32 between":         {write(1, 0, "a"), write(1, 32, "a"), write(2, 0, "a")},
		"9 bytes":                  {write(1, 0, "123456789")},
		"9 bytes behind":           {write(1, 0, "a"), write(9, 3, "123456789")},
		"the longest text":         {write(1, 0, strings.Repeat("x", api.MaxText))},
		"a block twice":            {write(1, 0, "a"), write(1, 0, "b")},
		"a falling Block":          {write(1, 1, "a"), write(1, 0, "b")},
		"a falling Vol":            {write(2, 0, "a"), write(1, 1, "b")},
		"129 writes":               row(mostWrites + 1),
		"255 writes":               row(255),
		"256 writes":               row(256),
		"all blocks":               row(255 * 32),
		"the same many times":      slices.Repeat(writes(write(1, 0, "")), 65535),
		"9 bytes at the very last": append(row(mostWrites-1), write(9, 0, "123456789")),
	}
}

// No encoding has room for these.
func unheardWrites() map[string][]api.Write {
	return map[string][]api.Write{
		"Vol 256":             {write(256, 0, "a")},
		"Vol 257":             {write(257, 0, "a")},
		"Vol below 0":         {write(-1, 0, "a")},
		"the least Vol":       {write(math.MinInt, 0, "a")},
		"the greatest Vol":    {write(math.MaxInt, 0, "a")},
		"Block below 0":       {write(1, -1, "a")},
		"Block 256":           {write(1, 256, "a")},
		"the least Block":     {write(1, math.MinInt, "a")},
		"the greatest Block":  {write(1, math.MaxInt, "a")},
		"longer than a text":  {write(1, 0, strings.Repeat("x", api.MaxText+1))},
		"65536 writes":        slices.Repeat(writes(write(1, 0, "")), 65536),
		"65537 rising writes": row(65537),
	}
}

// coder puts encodings together from the chapter's words, whatever they say, as long as it fits.
type coder struct{ b []byte }

func (c *coder) one(n int) { c.b = append(c.b, byte(n)) }

func (c *coder) two(n int) { c.b = binary.BigEndian.AppendUint16(c.b, uint16(n)) }

func (c *coder) eight(l ...int) {
	for _, n := range l {
		c.b = binary.BigEndian.AppendUint64(c.b, uint64(n))
	}
}

func (c *coder) line(l []api.Branch) {
	c.one(len(l))
	for _, b := range l {
		c.eight(b.Epoch, b.At)
	}
}

func (c *coder) writes(ws []api.Write) {
	c.two(len(ws))
	for _, w := range ws {
		c.one(w.Vol)
		c.one(w.Block)
		c.two(len(w.Data))
		c.b = append(c.b, w.Data...)
	}
}

func (c *coder) bits(m []api.Bits) {
	c.one(len(m))
	for _, x := range m {
		c.one(x.Vol)
		c.b = binary.BigEndian.AppendUint32(c.b, uint32(x.Mask))
	}
}

func lineCode(l []api.Branch) string {
	var c coder
	c.line(l)
	return string(c.b)
}

func writesCode(ws []api.Write) string {
	var c coder
	c.writes(ws)
	return string(c.b)
}

// flagged encodes m with any number as Full.
func flagged(m api.Msg, full int) string {
	var c coder
	c.one(m.Kind)
	c.eight(m.Epoch)
	c.line(m.Line)
	c.eight(m.Seq, m.N, m.Of)
	c.one(full)
	c.line(m.Anchor.Line)
	c.eight(m.Anchor.Seq)
	c.bits(m.Bits)
	c.one(len(m.Sizes))
	for _, n := range m.Sizes {
		c.one(n)
	}
	c.eight(m.Set.From, m.Set.To)
	c.writes(m.Set.Writes)
	return string(c.b)
}

func code(m api.Msg) string {
	if m.Full {
		return flagged(m, 1)
	}
	return flagged(m, 0)
}

func samePos(a, b api.Pos) bool { return a.Seq == b.Seq && slices.Equal(a.Line, b.Line) }

func same(a, b api.Msg) bool {
	return a.Kind == b.Kind && a.Epoch == b.Epoch && slices.Equal(a.Line, b.Line) &&
		a.Seq == b.Seq && a.N == b.N && a.Of == b.Of && a.Full == b.Full && samePos(a.Anchor, b.Anchor) &&
		slices.Equal(a.Bits, b.Bits) && slices.Equal(a.Sizes, b.Sizes) &&
		a.Set.From == b.Set.From && a.Set.To == b.Set.To && slices.Equal(a.Set.Writes, b.Set.Writes)
}

func clone(m api.Msg) api.Msg {
	m.Line = slices.Clone(m.Line)
	m.Anchor.Line = slices.Clone(m.Anchor.Line)
	m.Bits = slices.Clone(m.Bits)
	m.Sizes = slices.Clone(m.Sizes)
	m.Set.Writes = slices.Clone(m.Set.Writes)
	return m
}

// show tells of a value no more than fits into a line.
func show(v any) string { return fmt.Sprintf("%.300q", fmt.Sprintf("%+v", v)) }

// rests are what may stand behind an encoding.
var rests = []string{"", "x", "\x00", "\x00\x00", "\xff\xff\xff", strings.Repeat("rest", 100)}

func expectNoLine(t *testing.T, name, s string) {
	t.Helper()
	if l, rest, e := msg.TakeLine(s); len(l) != 0 || rest != "" || e != api.ErrForm {
		t.Errorf("%s: TakeLine(%.60q) = %s, %.20q, %d, want ErrForm", name, s, show(l), rest, e)
	}
}

func expectNoWrites(t *testing.T, name, s string) {
	t.Helper()
	if ws, rest, e := msg.TakeWrites(s); len(ws) != 0 || rest != "" || e != api.ErrForm {
		t.Errorf("%s: TakeWrites(%.60q) = %s, %.20q, %d, want ErrForm", name, s, show(ws), rest, e)
	}
}

// P17.1: lines, up to 64 branches and numbers up to 2^40, with anything behind them.
func TestLines(t *testing.T) {
	for name, l := range rightLines() {
		before := slices.Clone(l)
		s, e := msg.PutLine(l)
		if s != lineCode(l) || e != api.OK {
			t.Errorf("%s: PutLine = %.60q, %d, want %.60q", name, s, e, lineCode(l))
		}
		if !slices.Equal(l, before) {
			t.Errorf("%s: PutLine changed the line to %s", name, show(l))
		}
		for _, rest := range rests {
			got, behind, e := msg.TakeLine(lineCode(l) + rest)
			if !slices.Equal(got, l) || behind != rest || e != api.OK {
				t.Errorf("%s: TakeLine with %.20q behind = %s, %.20q, %d", name, rest, show(got), behind, e)
			}
		}
		for n := range len(lineCode(l)) {
			expectNoLine(t, fmt.Sprint(name, ", cut to ", n), lineCode(l)[:n])
		}
	}
}

// P17.1: lines that are neither empty nor valid.
func TestWrongLines(t *testing.T) {
	for name, l := range wrongLines() {
		if s, e := msg.PutLine(l); s != "" || e != api.ErrArg {
			t.Errorf("%s: PutLine = %.60q, %d, want ErrArg", name, s, e)
		}
		for _, rest := range rests {
			expectNoLine(t, name, lineCode(l)+rest)
		}
	}
	for name, l := range unheardLines() {
		if s, e := msg.PutLine(l); s != "" || e != api.ErrArg {
			t.Errorf("%s: PutLine = %.60q, %d, want ErrArg", name, s, e)
		}
	}
	zeros := strings.Repeat("\x00", 8)
	for _, wide := range []string{"\x80" + zeros[1:], "\xff" + zeros[1:], strings.Repeat("\xff", 8)} {
		expectNoLine(t, "an Epoch of 64 bits", "\x01"+wide+zeros)
		expectNoLine(t, "an At of 64 bits", "\x01"+zeros[1:]+"\x01"+wide)
	}
}

// P17.1: writes, up to 128 of them, with anything behind them.
func TestWrites(t *testing.T) {
	for name, ws := range rightWrites() {
		before := slices.Clone(ws)
		s, e := msg.PutWrites(ws)
		if s != writesCode(ws) || e != api.OK {
			t.Errorf("%s: PutWrites = %.60q, %d, want %.60q", name, s, e, writesCode(ws))
		}
		if !slices.Equal(ws, before) {
			t.Errorf("%s: PutWrites changed the writes to %s", name, show(ws))
		}
		for _, rest := range rests {
			got, behind, e := msg.TakeWrites(writesCode(ws) + rest)
			if !slices.Equal(got, ws) || behind != rest || e != api.OK {
				t.Errorf("%s: TakeWrites with %.20q behind = %s, %.20q, %d", name, rest, show(got), behind, e)
			}
		}
		for n := range len(writesCode(ws)) {
			expectNoWrites(t, fmt.Sprint(name, ", cut to ", n), writesCode(ws)[:n])
		}
	}
}

// P17.1: writes that are not encodable.
func TestWrongWrites(t *testing.T) {
	for name, ws := range wrongWrites() {
		if s, e := msg.PutWrites(ws); s != "" || e != api.ErrArg {
			t.Errorf("%s: PutWrites = %.60q, %d, want ErrArg", name, s, e)
		}
		for _, rest := range rests {
			expectNoWrites(t, name, writesCode(ws)+rest)
		}
	}
	for name, ws := range unheardWrites() {
		if s, e := msg.PutWrites(ws); s != "" || e != api.ErrArg {
			t.Errorf("%s: PutWrites = %.60q, %d, want ErrArg", name, s, e)
		}
	}
	for _, s := range []string{"\xff\xff", "\x00\x81", "\x01\x00", "\x01\x01\x01\x00\x00\x00", "\x00\x01\x01\x00\x00\x09abcdefgh"} {
		expectNoWrites(t, "a number that is not kept", s)
	}
}

// P17.1: each Vol, each Block and each length of Data.
func TestEachWrite(t *testing.T) {
	for vol := -2; vol < 260; vol++ {
		for block := -2; block < 36; block++ {
			ws := writes(write(vol, block, "d"))
			s, e := msg.PutWrites(ws)
			if right := vol >= 1 && vol <= 255 && block >= 0 && block <= 31; right {
				if s != writesCode(ws) || e != api.OK {
					t.Errorf("PutWrites(%v) = %q, %d", ws, s, e)
				}
			} else if s != "" || e != api.ErrArg {
				t.Errorf("PutWrites(%v) = %q, %d, want ErrArg", ws, s, e)
			}
		}
	}
	for n := range 20 {
		ws := writes(write(1, 0, strings.Repeat("x", n)))
		s, e := msg.PutWrites(ws)
		if n <= 8 && (s != writesCode(ws) || e != api.OK) || n > 8 && (s != "" || e != api.ErrArg) {
			t.Errorf("PutWrites of %d bytes = %q, %d", n, s, e)
		}
	}
}

// whole is a message that uses every field.
func whole() api.Msg {
	return api.Msg{
		Kind:   api.MsgHere,
		Epoch:  9,
		Line:   path(branch(1, 0), branch(8, 3)),
		Seq:    70,
		N:      1 << 32,
		Of:     0x0102030405,
		Full:   true,
		Anchor: api.Pos{Line: path(branch(1, 0), branch(4, 2)), Seq: 6},
		Bits:   []api.Bits{bits(1, 8), bits(2, full)},
		Sizes:  []int{1, 4, 2, 32},
		Set:    api.Set{From: 5, To: 11, Writes: writes(write(1, 2, "a"), write(3, 4, "bc"))},
	}
}

// with is whole with one change.
func with(change func(m *api.Msg)) api.Msg {
	m := whole()
	change(&m)
	return m
}

// numbered are the fields of a message that are numbers up to 2^40 whatever the others are.
func numbered() map[string]func(m *api.Msg) *int {
	return map[string]func(m *api.Msg) *int{
		"Epoch": func(m *api.Msg) *int { return &m.Epoch },
		"Seq":   func(m *api.Msg) *int { return &m.Seq },
		"N":     func(m *api.Msg) *int { return &m.N },
		"Of":    func(m *api.Msg) *int { return &m.Of },
	}
}

// anyBits is the greatest bitmap: every block of every volume is marked.
func anyBits() []api.Bits {
	var l []api.Bits
	for v := 1; v <= 255; v++ {
		l = append(l, bits(v, full))
	}
	return l
}

func rightMessages() map[string]api.Msg {
	all := map[string]api.Msg{"every field": whole(), "Full alone": {Kind: 1, Full: true}}
	for kind := 1; kind <= 9; kind++ {
		all[fmt.Sprint("only the kind ", kind)] = api.Msg{Kind: kind}
		all[fmt.Sprint("every field, kind ", kind)] = with(func(m *api.Msg) { m.Kind = kind })
	}
	for name, field := range numbered() {
		for _, n := range []int{0, 1, 255, 256, limit - 1, limit} {
			all[fmt.Sprint(name, " ", n)] = with(func(m *api.Msg) { *field(m) = n })
		}
	}
	for name, l := range rightLines() {
		all["Line: "+name] = with(func(m *api.Msg) { m.Line = l })
	}
	for name, ws := range rightWrites() {
		all["Writes: "+name] = with(func(m *api.Msg) { m.Set.Writes = ws })
	}
	for i, b := range [][]api.Bits{nil, {}, {bits(1, 1)}, {bits(255, 1<<31)}, {bits(3, full), bits(4, 1)}, anyBits()} {
		all[fmt.Sprint("Bits ", i)] = with(func(m *api.Msg) { m.Bits = b })
	}
	for i, l := range [][]int{nil, {}, {1, 1}, {255, 32}, {1, 32, 2, 1}, {1, 1, 2, 2, 3, 3, 4, 4}, {252, 32, 253, 32, 254, 32, 255, 32}} {
		all[fmt.Sprint("Sizes ", i)] = with(func(m *api.Msg) { m.Sizes = l })
	}
	for i, s := range [][2]int{{0, 0}, {0, 1}, {0, limit}, {limit, limit}, {7, 7}, {limit - 1, limit}} {
		all[fmt.Sprint("Set ", i)] = with(func(m *api.Msg) { m.Set.From, m.Set.To = s[0], s[1] })
	}
	for i, p := range rightAnchors() {
		all[fmt.Sprint("Anchor ", i)] = with(func(m *api.Msg) { m.Anchor = p })
	}
	return all
}

func rightAnchors() []api.Pos {
	return []api.Pos{
		{}, {Line: path()},
		{Line: path(branch(1, 0))}, {Line: path(branch(1, 0)), Seq: 1}, {Line: path(branch(limit, 0)), Seq: limit},
		{Line: path(branch(1, 0), branch(2, 5)), Seq: 5}, {Line: path(branch(1, 0), branch(2, limit)), Seq: limit},
		{Line: branches(mostBranches), Seq: limit},
	}
}

// wrongMessages miss one condition each, and have encodings all the same.
func wrongMessages() map[string]api.Msg {
	all := map[string]api.Msg{"the zero value": {}}
	for _, kind := range []int{0, 10, 11, 128, 255} {
		all[fmt.Sprint("kind ", kind)] = with(func(m *api.Msg) { m.Kind = kind })
		all[fmt.Sprint("only the kind ", kind)] = api.Msg{Kind: kind}
	}
	for name, field := range numbered() {
		for _, n := range []int{limit + 1, 1 << 41, math.MaxInt, -1, math.MinInt} {
			all[fmt.Sprint(name, " ", n)] = with(func(m *api.Msg) { *field(m) = n })
		}
	}
	for name, l := range wrongLines() {
		all["Line: "+name] = with(func(m *api.Msg) { m.Line = l })
		all["Line of Anchor: "+name] = with(func(m *api.Msg) { m.Anchor = api.Pos{Line: l, Seq: limit} })
	}
	for name, ws := range wrongWrites() {
		all["Writes: "+name] = with(func(m *api.Msg) { m.Set.Writes = ws })
	}
	for i, b := range [][]api.Bits{{bits(0, 1)}, {bits(1, 0)}, {bits(2, 1), bits(1, 1)}, {bits(1, 1), bits(1, 2)}, {bits(1, 1), bits(2, 0)}} {
		all[fmt.Sprint("Bits ", i)] = with(func(m *api.Msg) { m.Bits = b })
	}
	for i, l := range wrongSizes() {
		all[fmt.Sprint("Sizes ", i)] = with(func(m *api.Msg) { m.Sizes = l })
	}
	for i, s := range [][2]int{{1, 0}, {limit, 0}, {limit, limit - 1}, {0, limit + 1}, {limit + 1, limit + 1}, {-1, 0}, {-1, -1}, {0, -1}, {5, math.MaxInt}, {math.MinInt, 5}} {
		all[fmt.Sprint("Set ", i)] = with(func(m *api.Msg) { m.Set.From, m.Set.To = s[0], s[1] })
	}
	for i, p := range wrongAnchors() {
		all[fmt.Sprint("Anchor ", i)] = with(func(m *api.Msg) { m.Anchor = p })
	}
	return all
}

func wrongSizes() [][]int {
	return [][]int{
		{1}, {1, 1, 2}, {0, 1}, {1, 0}, {1, 33}, {1, 255}, {1, 1, 1, 1}, {2, 1, 1, 1}, {1, 1, 2, 0}, {1, 1, 2, 33},
		{1, 1, 2, 1, 3, 1, 4, 1, 5, 1}, {1, 1, 2, 1, 3, 1, 4, 1, 5}, make([]int, 255),
	}
}

// A Line with a Seq ahead of its last branch, or beyond the limit; no Line, but a Seq.
func wrongAnchors() []api.Pos {
	return []api.Pos{
		{Seq: 1}, {Seq: limit}, {Seq: limit + 1}, {Seq: -1}, {Line: path(), Seq: 1},
		{Line: path(branch(1, 0)), Seq: -1}, {Line: path(branch(1, 0)), Seq: limit + 1}, {Line: path(branch(1, 0)), Seq: math.MaxInt},
		{Line: path(branch(1, 0), branch(2, 5)), Seq: 4}, {Line: path(branch(1, 0), branch(2, 5))},
		{Line: path(branch(1, 0), branch(2, limit)), Seq: limit - 1},
	}
}

// unheardMessages miss one condition each, and no encoding has room for them.
func unheardMessages() map[string]api.Msg {
	all := make(map[string]api.Msg)
	for _, kind := range []int{-1, math.MinInt, 256, 257, 1<<32 + 1, math.MaxInt} {
		all[fmt.Sprint("kind ", kind)] = with(func(m *api.Msg) { m.Kind = kind })
	}
	for name, l := range unheardLines() {
		all["Line: "+name] = with(func(m *api.Msg) { m.Line = l })
		all["Line of Anchor: "+name] = with(func(m *api.Msg) { m.Anchor = api.Pos{Line: l, Seq: limit} })
	}
	for name, ws := range unheardWrites() {
		all["Writes: "+name] = with(func(m *api.Msg) { m.Set.Writes = ws })
	}
	for i, b := range [][]api.Bits{{bits(-1, 1)}, {bits(256, 1)}, {bits(257, 1)}, {bits(1, full+1)}, {bits(1, full+2)}, {bits(1, math.MaxUint64)}, append(anyBits(), bits(255, 1))} {
		all[fmt.Sprint("Bits ", i)] = with(func(m *api.Msg) { m.Bits = b })
	}
	for i, l := range [][]int{{-1, 1}, {256, 1}, {257, 1}, {1, -1}, {1, 256}, {1, 257}, {1, math.MaxInt}, {math.MinInt, math.MinInt}, make([]int, 256), make([]int, 258)} {
		all[fmt.Sprint("Sizes ", i)] = with(func(m *api.Msg) { m.Sizes = l })
	}
	return all
}

func expectNoMessage(t *testing.T, name, s string) {
	t.Helper()
	if m, e := msg.Parse(s); !same(m, api.Msg{}) || e != api.ErrForm {
		t.Errorf("%s: Parse(%.60q) = %s, %d, want ErrForm", name, s, show(m), e)
	}
}

// P17.2: each condition of a valid message, on the right side of its edge.
func TestMessages(t *testing.T) {
	for name, m := range rightMessages() {
		before := clone(m)
		if !msg.Right(m) {
			t.Errorf("%s: not valid", name)
		}
		if s, e := msg.Bytes(m); s != code(m) || e != api.OK {
			t.Errorf("%s: Bytes = %q, %d, want %q", name, s, e, code(m))
		}
		if got, e := msg.Parse(code(m)); !same(got, m) || e != api.OK {
			t.Errorf("%s: Parse = %s, %d, want %s", name, show(got), e, show(m))
		}
		if !same(m, before) {
			t.Errorf("%s: the message is changed to %s", name, show(m))
		}
	}
}

// P17.2: each condition of a valid message, on the wrong side of its edge.
func TestWrongMessages(t *testing.T) {
	for name, m := range wrongMessages() {
		expectWrong(t, name, m)
		expectNoMessage(t, name, code(m))
	}
	for name, m := range unheardMessages() {
		expectWrong(t, name, m)
	}
}

func expectWrong(t *testing.T, name string, m api.Msg) {
	t.Helper()
	if msg.Right(m) {
		t.Errorf("%s: valid", name)
	}
	if s, e := msg.Bytes(m); s != "" || e != api.ErrArg {
		t.Errorf("%s: Bytes = %.60q, %d, want ErrArg", name, s, e)
	}
}

// P17.2: neither less than an encoding nor more.
func TestParseExactly(t *testing.T) {
	for name, m := range rightMessages() {
		s := code(m)
		for n := range len(s) {
			expectNoMessage(t, fmt.Sprint(name, ", cut to ", n), s[:n])
		}
		for _, rest := range rests[1:] {
			expectNoMessage(t, name+", with more", s+rest)
		}
		expectNoMessage(t, name+", twice", s+s)
		expectNoMessage(t, name+", behind a byte", "\x00"+s)
	}
	for _, s := range []string{"", "\x00", strings.Repeat("\x00", 100), strings.Repeat("\xff", 200), "\x01" + strings.Repeat("\x00", 75)} {
		expectNoMessage(t, "not an encoding", s)
	}
}

// P17.2: the flag is 0 or 1.
func TestFlag(t *testing.T) {
	for n := range 256 {
		m, e := msg.Parse(flagged(whole(), n))
		if n > 1 {
			expectNoMessage(t, fmt.Sprint("Full ", n), flagged(whole(), n))
			continue
		}
		if m.Full != (n == 1) || e != api.OK {
			t.Errorf("Parse with Full %d: %s, %d", n, show(m), e)
		}
	}
}

// P17.2: an encoding of which a byte is changed is that of another message, or of none.
func TestChangedBytes(t *testing.T) {
	for _, m := range []api.Msg{whole(), {Kind: 1}, with(func(m *api.Msg) { m.Bits, m.Sizes = nil, nil })} {
		s := code(m)
		for i := range len(s) {
			for by := 1; by < 256; by++ {
				b := []byte(s)
				b[i] ^= byte(by)
				expectCanonical(t, string(b))
				if got, e := msg.Parse(string(b)); e == api.OK && same(got, m) {
					t.Errorf("Parse(%q) = Parse(%q)", b, s)
				}
			}
		}
	}
}

// expectCanonical holds what Parse makes of s against s.
func expectCanonical(t *testing.T, s string) {
	t.Helper()
	m, e := msg.Parse(s)
	if e != api.OK {
		expectNoMessage(t, "no encoding", s)
		return
	}
	if back, e := msg.Bytes(m); !msg.Right(m) || back != s || e != api.OK || code(m) != s {
		t.Errorf("Parse(%q) = %s, whose encoding is %q, %d", s, show(m), back, e)
	}
}

// P1: strings that come by chance, and pieces of encodings put together by chance.
func TestAnyStrings(t *testing.T) {
	rnd := rand.New(rand.NewSource(1))
	codes := make([]string, 0)
	for _, m := range []api.Msg{whole(), {Kind: 3}, {Kind: 9, Full: true}} {
		codes = append(codes, code(m))
	}
	for range 20000 {
		b := make([]byte, rnd.Intn(120))
		rnd.Read(b)
		if a := codes[rnd.Intn(len(codes))]; rnd.Intn(2) == 0 {
			b = append([]byte(a[:rnd.Intn(len(a)+1)]), b[:rnd.Intn(len(b)+1)]...)
		}
		expectCanonical(t, string(b))
		if l, rest, e := msg.TakeLine(string(b)); e == api.OK && lineCode(l)+rest != string(b) || e != api.OK && e != api.ErrForm {
			t.Errorf("TakeLine(%q) = %s, %q, %d", b, show(l), rest, e)
		}
		if ws, rest, e := msg.TakeWrites(string(b)); e == api.OK && writesCode(ws)+rest != string(b) || e != api.OK && e != api.ErrForm {
			t.Errorf("TakeWrites(%q) = %s, %q, %d", b, show(ws), rest, e)
		}
	}
}

func randomLine(rnd *rand.Rand) []api.Branch {
	var l []api.Branch
	epoch, at := 0, 0
	for range rnd.Intn(5) {
		epoch += 1 + rnd.Intn(3)<<rnd.Intn(30)
		l = append(l, branch(epoch, at))
		at += rnd.Intn(3) << rnd.Intn(30)
	}
	return l
}

func randomWrites(rnd *rand.Rand) []api.Write {
	var ws []api.Write
	for vol := 1; vol <= 255; vol += 1 + rnd.Intn(200) {
		for block := rnd.Intn(40); block < 32; block += 1 + rnd.Intn(20) {
			data := make([]byte, rnd.Intn(9))
			rnd.Read(data)
			ws = append(ws, write(vol, block, string(data)))
		}
	}
	return ws
}

func randomMessage(rnd *rand.Rand) api.Msg {
	num := func() int { return rnd.Intn(1 << rnd.Intn(40)) }
	m := api.Msg{Kind: 1 + rnd.Intn(9), Epoch: num(), Line: randomLine(rnd), Seq: num(), N: num(), Of: num(), Full: rnd.Intn(2) == 0}
	if l := randomLine(rnd); len(l) > 0 {
		m.Anchor = api.Pos{Line: l, Seq: l[len(l)-1].At + num()}
	}
	for vol := 1 + rnd.Intn(300); vol <= 255; vol += 1 + rnd.Intn(99) {
		m.Bits = append(m.Bits, bits(vol, 1+uint64(rnd.Int63n(full))))
	}
	id := 0
	for range rnd.Intn(5) {
		id += 1 + rnd.Intn(60)
		m.Sizes = append(m.Sizes, id, 1+rnd.Intn(32))
	}
	from := num()
	m.Set = api.Set{From: from, To: from + num(), Writes: randomWrites(rnd)}
	return m
}

// P17.3: Parse inverts Bytes, and different messages have different encodings.
func TestInverse(t *testing.T) {
	rnd := rand.New(rand.NewSource(2))
	seen := make(map[string]api.Msg)
	for range 3000 {
		m := randomMessage(rnd)
		s, e := msg.Bytes(m)
		if s != code(m) || e != api.OK {
			t.Fatalf("Bytes(%s) = %q, %d, want %q", show(m), s, e, code(m))
		}
		if got, e := msg.Parse(s); !same(got, m) || e != api.OK {
			t.Fatalf("Parse(Bytes(%s)) = %s, %d", show(m), show(got), e)
		}
		if other, there := seen[s]; there && !same(other, m) {
			t.Fatalf("%s and %s have the same encoding", show(other), show(m))
		}
		seen[s] = m
	}
	// Neighbours, too: each of them differs from each other one.
	right := rightMessages()
	for name, a := range right {
		for other, b := range right {
			s, _ := msg.Bytes(a)
			if r, _ := msg.Bytes(b); (r == s) != same(a, b) {
				t.Errorf("%s, %s: their encodings are equal: %v", name, other, r == s)
			}
		}
	}
}

// R1: what was returned is written to by its owner alone.
func TestNewMemory(t *testing.T) {
	line := path(branch(1, 0), branch(2, 3))
	m := with(func(m *api.Msg) { m.Line, m.Anchor = line, api.Pos{Line: line, Seq: 3} })
	s := code(m)
	first, _ := msg.Parse(s)
	second, _ := msg.Parse(s)
	if !same(first, m) || !same(second, m) {
		t.Fatalf("Parse(%q) = %s and %s", s, show(first), show(second))
	}
	first.Line[0].Epoch = 77
	if first.Anchor.Line[0].Epoch != 1 {
		t.Errorf("two lines of one message share their branches")
	}
	first.Line = append(first.Line[:1], branch(78, 0))
	first.Anchor.Line[0].Epoch = 79
	first.Bits[0].Mask = 80
	first.Sizes[0] = 81
	first.Set.Writes[0].Data = "82"
	if !same(second, m) || code(m) != s {
		t.Errorf("a message changed to %s, %s", show(second), show(m))
	}
	a, _, _ := msg.TakeLine(lineCode(line))
	b, _, _ := msg.TakeLine(lineCode(line))
	if len(a) == len(line) {
		a[0].Epoch = 9
	}
	if !slices.Equal(b, line) {
		t.Errorf("a line changed to %v", b)
	}
	ws, _, _ := msg.TakeWrites(writesCode(row(3)))
	others, _, _ := msg.TakeWrites(writesCode(row(3)))
	if len(ws) == 3 {
		ws[0].Data = "9"
	}
	if !slices.Equal(others, row(3)) {
		t.Errorf("writes changed to %v", others)
	}
}

// The chapter's examples.
func TestExamples(t *testing.T) {
	s, e := msg.PutLine(path(branch(1, 0)))
	if s != "\x01\x00\x00\x00\x00\x00\x00\x00\x01\x00\x00\x00\x00\x00\x00\x00\x00" || e != api.OK {
		t.Errorf("PutLine({1, 0}) = %q, %d", s, e)
	}
	s, e = msg.PutWrites(writes(write(2, 5, "x")))
	if s != "\x00\x01\x02\x05\x00\x01x" || e != api.OK {
		t.Errorf("PutWrites({2, 5, x}) = %q, %d", s, e)
	}
	s, e = msg.Bytes(api.Msg{Kind: api.MsgAsk, Epoch: 1, Line: path(branch(1, 0)), Seq: 2})
	zeros := strings.Repeat("\x00", 7)
	want := "\x01" + zeros + "\x01" + "\x01" + zeros + "\x01" + zeros + "\x00" + zeros + "\x02" + strings.Repeat("\x00", 8+8+1+1+8+1+1+8+8+2)
	if s != want || e != api.OK {
		t.Errorf("Bytes of an Ask = %q, %d, want %q", s, e, want)
	}
}
