package lines_test

import (
	"math"
	"slices"
	"testing"

	"strake/api"
	"strake/lines"
)

// shaped is a geometry of so many units, lines, pages and sectors.
func shaped(units, blocks, pages, sectors int) api.Geometry {
	g := api.Geometry{Chans: units, Luns: 1, Blocks: blocks, Pages: pages, Sectors: sectors}
	if units > api.MaxChans {
		g.Chans, g.Luns = units/2, 2
	}
	return g
}

// little is a device of three lines of two blocks: each has room for 10, 4 or 0 sectors.
func little() api.Geometry { return shaped(2, 3, 3, 2) }

// far are numbers beyond all lines, blocks and wears, and numbers that would be right if they were cut off.
func far() []int {
	return []int{-1, -2, -3, -64, 65, 1 << 31, 1<<31 + 1, -1 << 31, 1 << 32, 1<<32 + 1, 1<<32 + 2, -1 << 32, 1 << 40, 1 << 62, -1 << 62, math.MaxInt - 1, math.MaxInt, math.MinInt, math.MinInt + 1}
}

// same is a number for each of many lines.
func same(n, many int) []int { return slices.Repeat([]int{n}, many) }

func fresh(t *testing.T, g api.Geometry, good, wear []int) *lines.Lines {
	t.Helper()
	l, err := lines.New(g, good, wear)
	if err != api.OK || l == nil {
		t.Fatalf("New(%v, %v, %v): %v, %v", g, good, wear, l, err)
	}
	return l
}

func wantNoNew(t *testing.T, g api.Geometry, good, wear []int) {
	t.Helper()
	if l, err := lines.New(g, good, wear); l != nil || err != api.ErrArg {
		t.Errorf("New(%v, %v, %v): %v, %v, want no lines, %v", g, good, wear, l, err, api.ErrArg)
	}
}

// op is a call that changes lines. Of Open and Close the line counts for nothing.
type op struct {
	name string
	line int
}

func openLine() op          { return op{name: "Open"} }
func closeLine() op         { return op{name: "Close"} }
func useLine(line int) op   { return op{"Use", line} }
func eraseLine(line int) op { return op{"Erased", line} }
func loseBlock(line int) op { return op{"Lose", line} }
func freeLine(line int) op  { return op{"Release", line} }

// lineOps are the calls that take a line.
func lineOps(line int) []op {
	return []op{useLine(line), eraseLine(line), loseBlock(line), freeLine(line)}
}

// allOps are all calls that change something, of so many lines.
func allOps(many int) []op {
	list := []op{openLine(), closeLine()}
	for line := range many {
		list = append(list, lineOps(line)...)
	}
	return list
}

// call is what is answered; the number is 0 where the call answers none.
func call(l *lines.Lines, o op) (int, api.Errno) {
	switch o.name {
	case "Open":
		return l.Open()
	case "Close":
		return l.Close()
	case "Use":
		return 0, l.Use(o.line)
	case "Erased":
		return 0, l.Erased(o.line)
	case "Lose":
		return 0, l.Lose(o.line)
	}
	return 0, l.Release(o.line)
}

func want(t *testing.T, l *lines.Lines, o op, want int, wantErr api.Errno) {
	t.Helper()
	if n, err := call(l, o); n != want || err != wantErr {
		t.Errorf("%s(%d): %d, %v, want %d, %v", o.name, o.line, n, err, want, wantErr)
	}
}

// wantOK carries out calls that answer no number but 0, or whose number is asked elsewhere.
func wantOK(t *testing.T, l *lines.Lines, ops ...op) {
	t.Helper()
	for _, o := range ops {
		if _, err := call(l, o); err != api.OK {
			t.Errorf("%s(%d): %v", o.name, o.line, err)
		}
	}
}

func wantGet(t *testing.T, l *lines.Lines, line int, want api.Line) {
	t.Helper()
	if got, err := l.Get(line); got != want || err != api.OK {
		t.Errorf("Get(%d): %+v, %v, want %+v", line, got, err, want)
	}
}

// wantAll holds everything that lines answer against what each of them is to be.
func wantAll(t *testing.T, l *lines.Lines, want ...api.Line) {
	t.Helper()
	current, room, count := -1, 0, map[int]int{}
	for line, one := range want {
		wantGet(t, l, line, one)
		count[one.State]++
		room += one.Room
		if one.State == api.Open {
			current = line
		}
	}
	if got := l.Current(); got != current {
		t.Errorf("Current: %d, want %d", got, current)
	}
	if got := l.Capacity(); got != room {
		t.Errorf("Capacity: %d, want %d", got, room)
	}
	for state := -2; state <= 6; state++ {
		if got := l.Count(state); got != count[state] {
			t.Errorf("Count(%d): %d, want %d", state, got, count[state])
		}
	}
	for _, line := range []int{-1, len(want)} {
		if got, err := l.Get(line); got != (api.Line{}) || err != api.ErrRange {
			t.Errorf("Get(%d): %+v, %v, want nothing, %v", line, got, err, api.ErrRange)
		}
	}
}

// model is the lines as the chapter has them.
type model struct {
	g     api.Geometry
	state []int
	good  []int
	wear  []int
}

func newModel(g api.Geometry, good, wear []int) *model {
	o := &model{g: g, good: slices.Clone(good), wear: slices.Clone(wear)}
	for _, n := range good {
		if n > 0 {
			o.state = append(o.state, 0)
		} else {
			o.state = append(o.state, 3)
		}
	}
	return o
}

func (o *model) call(c op) (int, api.Errno) {
	switch c.name {
	case "Open":
		return o.open()
	case "Close":
		line := slices.Index(o.state, 1)
		if line < 0 {
			return 0, 13
		}
		o.state[line] = 2
		return line, 0
	}
	if c.line < 0 || c.line >= len(o.state) {
		return 0, 2
	}
	if c.name == "Lose" {
		return 0, o.lose(c.line)
	}
	if o.state[c.line] != map[string]int{"Use": 0, "Erased": 1, "Release": 2}[c.name] {
		return 0, 13
	}
	switch {
	case c.name == "Use":
		o.state[c.line] = 2
	case c.name == "Erased" && o.wear[c.line] < 1<<31-1:
		o.wear[c.line]++
	case c.name == "Release" && o.good[c.line] > 0:
		o.state[c.line] = 0
	case c.name == "Release":
		o.state[c.line] = 3
	}
	return 0, 0
}

func (o *model) open() (int, api.Errno) {
	if slices.Contains(o.state, 1) {
		return 0, 13
	}
	if !slices.Contains(o.state, 0) {
		return 0, 11
	}
	for _, wear := range slices.Sorted(slices.Values(o.wear)) {
		for line := range o.state {
			if o.state[line] == 0 && o.wear[line] == wear {
				o.state[line] = 1
				return line, 0
			}
		}
	}
	return -1, -1
}

func (o *model) lose(line int) api.Errno {
	if o.good[line] == 0 {
		return 13
	}
	o.good[line]--
	if o.good[line] == 0 && o.state[line] == 0 {
		o.state[line] = 3
	}
	return 0
}

func (o *model) lines() []api.Line {
	var list []api.Line
	for i := range o.state {
		room := 0
		for range o.good[i] {
			room += o.g.Pages * o.g.Sectors
		}
		if o.good[i] > 0 {
			room -= o.g.Sectors
		}
		list = append(list, api.Line{State: o.state[i], Wear: o.wear[i], Good: o.good[i], Room: room})
	}
	return list
}

// both carries a call out on the lines and on their model, and holds the answers against each other.
func both(t *testing.T, l *lines.Lines, o *model, c op) {
	t.Helper()
	n, err := o.call(c)
	want(t, l, c, n, err)
}

// P12.1

func TestNewGeometries(t *testing.T) {
	most := []int{api.MaxChans, api.MaxLuns, api.MaxBlocks, api.MaxPages, api.MaxSectors}
	for field := range 5 {
		for _, n := range append(far(), 0, 1, 2, 3, 4, 5, 8, 9, 31, 32, 33, 63, 64) {
			side := []int{2, 2, 3, 3, 2}
			side[field] = n
			g := api.Geometry{Chans: side[0], Luns: side[1], Blocks: side[2], Pages: side[3], Sectors: side[4]}
			many := g.Blocks
			if many < 0 || many > 100 {
				many = 3
			}
			if n < 1 || n > most[field] {
				wantNoNew(t, g, same(1, many), same(0, many))
				wantNoNew(t, g, same(0, many), same(0, many))
				wantNoNew(t, g, nil, nil)
				continue
			}
			o := newModel(g, same(1, many), same(0, many))
			wantAll(t, fresh(t, g, o.good, o.wear), o.lines()...)
		}
	}
	wantNoNew(t, api.Geometry{}, nil, nil)
}

func TestNewTooFewOrTooMany(t *testing.T) {
	for _, blocks := range []int{1, 2, 3, 63, 64} {
		g := shaped(2, blocks, 3, 2)
		fresh(t, g, same(1, blocks), same(0, blocks))
		for _, many := range []int{0, 1, 2, 3, blocks - 1, blocks + 1, 2 * blocks, 64, 65, 128} {
			if many == blocks {
				continue
			}
			wantNoNew(t, g, same(1, many), same(0, blocks))
			wantNoNew(t, g, same(1, blocks), same(0, many))
			wantNoNew(t, g, same(1, many), same(0, many))
		}
		wantNoNew(t, g, nil, same(0, blocks))
		wantNoNew(t, g, same(1, blocks), nil)
		wantNoNew(t, g, nil, nil)
	}
}

func TestNewGood(t *testing.T) {
	for _, g := range []api.Geometry{shaped(1, 3, 3, 2), little(), shaped(4, 3, 1, 1), shaped(6, 3, 3, 2), shaped(8, 3, 32, 4)} {
		units := g.Chans * g.Luns
		for line := range 3 {
			for good := range units + 1 {
				o := newModel(g, same(units, 3), []int{5, 6, 7})
				o.good[line] = good
				wantAll(t, fresh(t, g, o.good, o.wear), newModel(g, o.good, o.wear).lines()...)
			}
			for _, good := range append(far(), units+1, 9, 64, 1<<31-1) {
				list := same(units, 3)
				list[line] = good
				wantNoNew(t, g, list, []int{5, 6, 7})
			}
		}
	}
}

func TestNewWear(t *testing.T) {
	for line := range 3 {
		for _, wear := range []int{0, 1, 2, 1<<16 - 1, 1 << 16, 1<<30 + 1, 1<<31 - 2, 1<<31 - 1} {
			for _, good := range []int{0, 2} { // a line without a good block has a wear as well
				o := newModel(little(), same(good, 3), same(4, 3))
				o.wear[line] = wear
				wantAll(t, fresh(t, little(), o.good, o.wear), o.lines()...)
			}
		}
		for _, wear := range []int{-1, -2, 1 << 31, 1<<31 + 1, -1 << 31, 1 << 32, 1<<32 + 1, -1 << 32, 1 << 62, -1 << 62, math.MaxInt, math.MinInt} {
			list := same(4, 3)
			list[line] = wear
			wantNoNew(t, little(), same(2, 3), list)
			wantNoNew(t, little(), same(0, 3), list)
		}
	}
}

// A number that is right for a wear is not right for good blocks.
func TestNewSwapped(t *testing.T) {
	fresh(t, little(), []int{2, 1, 0}, []int{3, 4, 5})
	wantNoNew(t, little(), []int{3, 4, 5}, []int{2, 1, 0})
}

func TestNewFreeOrDead(t *testing.T) {
	l := fresh(t, little(), []int{0, 1, 2}, []int{7, 8, 9})
	wantAll(t, l,
		api.Line{State: 3, Wear: 7},
		api.Line{State: 0, Wear: 8, Good: 1, Room: 4},
		api.Line{State: 0, Wear: 9, Good: 2, Room: 10})
	wantAll(t, fresh(t, little(), same(0, 3), same(0, 3)), api.Line{State: 3}, api.Line{State: 3}, api.Line{State: 3})
}

// R3

func TestNewLeavesItsSlices(t *testing.T) {
	good, wear := []int{2, 1, 0}, []int{3, 4, 5}
	o := newModel(little(), good, wear)
	l := fresh(t, little(), good, wear)
	for i := range 3 {
		good[i], wear[i] = 2-i, 9
	}
	wantAll(t, l, o.lines()...)
	_ = append(good[:0], -1, -1, -1)
	_ = append(wear[:0], -1, -1, -1)
	wantAll(t, l, o.lines()...)
	for _, c := range []op{openLine(), eraseLine(0), loseBlock(1), closeLine(), loseBlock(0), freeLine(0)} {
		both(t, l, o, c)
	}
	wantAll(t, l, o.lines()...)
	if !slices.Equal(good, same(-1, 3)) || !slices.Equal(wear, same(-1, 3)) {
		t.Errorf("the slices that were handed in became %v and %v", good, wear)
	}
}

func TestNewOfPartsOfASlice(t *testing.T) {
	list := []int{1, 2, 1, 2, 1, 2}
	l := fresh(t, little(), list[:3], list[2:5]) // they share an element
	wantOK(t, l, loseBlock(2), openLine(), eraseLine(0))
	if !slices.Equal(list, []int{1, 2, 1, 2, 1, 2}) {
		t.Errorf("the slice became %v", list)
	}
	wantAll(t, l,
		api.Line{State: 1, Wear: 2, Good: 1, Room: 4},
		api.Line{State: 0, Wear: 2, Good: 2, Room: 10},
		api.Line{State: 3, Wear: 1})
}

// P12.2

// states are lines of which the first one is Closed, the second one Open and the third one Free, and a fourth one Dead.
func states(t *testing.T) *lines.Lines {
	t.Helper()
	l := fresh(t, shaped(2, 4, 3, 2), []int{2, 2, 2, 0}, []int{4, 5, 6, 7})
	wantOK(t, l, useLine(0), openLine())
	wantAll(t, l, statesAre()...)
	return l
}

func statesAre() []api.Line {
	return []api.Line{
		{State: 2, Wear: 4, Good: 2, Room: 10},
		{State: 1, Wear: 5, Good: 2, Room: 10},
		{State: 0, Wear: 6, Good: 2, Room: 10},
		{State: 3, Wear: 7},
	}
}

func TestLinesBeyond(t *testing.T) {
	l := states(t)
	for _, line := range append(far(), 4, 5, 63, 64) {
		for _, o := range lineOps(line) {
			want(t, l, o, 0, api.ErrRange)
		}
		if got, err := l.Get(line); got != (api.Line{}) || err != api.ErrRange {
			t.Errorf("Get(%d): %+v, %v", line, got, err)
		}
	}
	wantAll(t, l, statesAre()...)
}

// The last line of a device is there, and the one behind it is not, for each number of lines.
func TestLastLine(t *testing.T) {
	for blocks := 1; blocks <= api.MaxBlocks; blocks++ {
		g, last := shaped(2, blocks, 3, 2), blocks-1
		wear := same(1, blocks)
		wear[last] = 0
		l := fresh(t, g, same(2, blocks), wear)
		for _, line := range []int{-1, blocks} {
			for _, o := range lineOps(line) {
				want(t, l, o, 0, api.ErrRange)
			}
		}
		want(t, l, openLine(), last, api.OK)
		want(t, l, eraseLine(last), 0, api.OK)
		want(t, l, loseBlock(last), 0, api.OK)
		want(t, l, closeLine(), last, api.OK)
		wantGet(t, l, last, api.Line{State: 2, Wear: 1, Good: 1, Room: 4})
		want(t, l, freeLine(last), 0, api.OK)
		want(t, l, useLine(last), 0, api.OK)
		wantGet(t, l, last, api.Line{State: 2, Wear: 1, Good: 1, Room: 4})
		if got, err := l.Get(blocks); got != (api.Line{}) || err != api.ErrRange {
			t.Errorf("Get(%d): %+v, %v", blocks, got, err)
		}
	}
}

// Each call that takes a line, in each of its states: what the line becomes, or that the call is refused and changes nothing.
func TestEachState(t *testing.T) {
	becomes := map[string]map[int]api.Line{
		"Use":     {2: {State: 2, Wear: 6, Good: 2, Room: 10}},
		"Erased":  {1: {State: 1, Wear: 6, Good: 2, Room: 10}},
		"Release": {0: {State: 0, Wear: 4, Good: 2, Room: 10}},
		"Lose": {
			0: {State: 2, Wear: 4, Good: 1, Room: 4},
			1: {State: 1, Wear: 5, Good: 1, Room: 4},
			2: {State: 0, Wear: 6, Good: 1, Room: 4},
		},
	}
	for line := range 4 {
		for _, o := range lineOps(line) {
			l, is := states(t), statesAre()
			if one, may := becomes[o.name][line]; may {
				is[line] = one
				want(t, l, o, 0, api.OK)
			} else {
				want(t, l, o, 0, api.ErrState)
			}
			wantAll(t, l, is...)
		}
	}
}

func TestUseMakesClosed(t *testing.T) {
	l := fresh(t, little(), same(2, 3), []int{1, 2, 3})
	wantOK(t, l, useLine(0), useLine(2))
	want(t, l, openLine(), 1, api.OK) // used lines are not opened
	want(t, l, useLine(1), 0, api.ErrState)
	want(t, l, useLine(0), 0, api.ErrState)
	want(t, l, freeLine(2), 0, api.OK)
	wantAll(t, l,
		api.Line{State: 2, Wear: 1, Good: 2, Room: 10},
		api.Line{State: 1, Wear: 2, Good: 2, Room: 10},
		api.Line{State: 0, Wear: 3, Good: 2, Room: 10})
}

func TestOpenWhereOneIsOpen(t *testing.T) {
	l := fresh(t, little(), same(2, 3), []int{1, 0, 2})
	want(t, l, openLine(), 1, api.OK)
	for range 3 {
		want(t, l, openLine(), 0, api.ErrState)
	}
	wantOK(t, l, useLine(0), useLine(2))
	want(t, l, openLine(), 0, api.ErrState) // nor is any line Free, which is told of later
	wantAll(t, l,
		api.Line{State: 2, Wear: 1, Good: 2, Room: 10},
		api.Line{State: 1, Wear: 0, Good: 2, Room: 10},
		api.Line{State: 2, Wear: 2, Good: 2, Room: 10})
}

func TestOpenWhereNoneIsFree(t *testing.T) {
	dead := api.Line{State: 3}
	l := fresh(t, little(), same(0, 3), same(0, 3))
	want(t, l, openLine(), 0, api.ErrFull)
	wantAll(t, l, dead, dead, dead)

	closed := api.Line{State: 2, Good: 2, Room: 10}
	l = fresh(t, little(), []int{2, 0, 2}, same(0, 3))
	wantOK(t, l, useLine(0), useLine(2))
	want(t, l, openLine(), 0, api.ErrFull)
	wantAll(t, l, closed, dead, closed)
	want(t, l, freeLine(2), 0, api.OK)
	want(t, l, openLine(), 2, api.OK)
}

// Lines that have each lost their last block while they were Free.
func TestOpenWhereAllAreLost(t *testing.T) {
	l := fresh(t, little(), same(1, 3), same(0, 3))
	for line := range 3 {
		want(t, l, loseBlock(line), 0, api.OK)
	}
	want(t, l, openLine(), 0, api.ErrFull)
	want(t, l, closeLine(), 0, api.ErrState)
}

func TestOpenLeastWorn(t *testing.T) {
	top := api.MaxWear
	for _, c := range []struct{ wear, order []int }{
		{[]int{3, 2, 1, 0}, []int{3, 2, 1, 0}},
		{[]int{0, 1, 2, 3}, []int{0, 1, 2, 3}},
		{[]int{5, 5, 5, 5}, []int{0, 1, 2, 3}},
		{[]int{1, 0, 1, 0}, []int{1, 3, 0, 2}},
		{[]int{9, 7, 8, 7}, []int{1, 3, 2, 0}},
		{[]int{2, 1, 1, 2}, []int{1, 2, 0, 3}},
		{[]int{top, top, top - 1, top}, []int{2, 0, 1, 3}},
		{[]int{top, 0, top, 1 << 30}, []int{1, 3, 0, 2}},
		{[]int{256, 1, 65536, 255}, []int{1, 3, 0, 2}},
	} {
		l := fresh(t, shaped(2, 4, 3, 2), same(2, 4), c.wear)
		for _, line := range c.order {
			want(t, l, openLine(), line, api.OK)
			want(t, l, closeLine(), line, api.OK)
		}
		want(t, l, openLine(), 0, api.ErrFull)
	}
}

// Lines that are not Free are not opened, however little they were erased.
func TestOpenPassesOthersOver(t *testing.T) {
	l := fresh(t, shaped(2, 5, 3, 2), []int{0, 2, 2, 1, 2}, []int{0, 0, 3, 2, 2})
	want(t, l, useLine(1), 0, api.OK)
	want(t, l, openLine(), 3, api.OK)
	want(t, l, closeLine(), 3, api.OK)
	want(t, l, loseBlock(4), 0, api.OK)
	want(t, l, loseBlock(4), 0, api.OK)
	want(t, l, openLine(), 2, api.OK)
	want(t, l, closeLine(), 2, api.OK)
	want(t, l, openLine(), 0, api.ErrFull)
}

// The number of good blocks counts for nothing when a line is opened, as long as there is one.
func TestOpenByWearAlone(t *testing.T) {
	l := fresh(t, little(), []int{2, 2, 1}, []int{1, 1, 0})
	want(t, l, openLine(), 2, api.OK)
	want(t, l, closeLine(), 2, api.OK)
	want(t, l, loseBlock(0), 0, api.OK)
	want(t, l, openLine(), 0, api.OK)
}

func TestOpenGreatestWear(t *testing.T) {
	g := shaped(1, 64, 1, 1)
	l := fresh(t, g, same(1, 64), same(api.MaxWear, 64))
	for line := range 64 {
		want(t, l, openLine(), line, api.OK)
		want(t, l, eraseLine(line), 0, api.OK)
		want(t, l, closeLine(), line, api.OK)
	}
	want(t, l, openLine(), 0, api.ErrFull)
}

func TestCloseWhereNoneIsOpen(t *testing.T) {
	l := fresh(t, little(), []int{2, 0, 2}, same(0, 3))
	want(t, l, closeLine(), 0, api.ErrState)
	want(t, l, useLine(2), 0, api.OK)
	want(t, l, closeLine(), 0, api.ErrState)
	want(t, l, openLine(), 0, api.OK)
	want(t, l, closeLine(), 0, api.OK)
	want(t, l, closeLine(), 0, api.ErrState)
	closed := api.Line{State: 2, Good: 2, Room: 10}
	wantAll(t, l, closed, api.Line{State: 3}, closed)
}

func TestCloseEach(t *testing.T) {
	for line := range 3 {
		wear := same(1, 3)
		wear[line] = 0
		l := fresh(t, little(), same(2, 3), wear)
		want(t, l, openLine(), line, api.OK)
		want(t, l, closeLine(), line, api.OK)
		wantGet(t, l, line, api.Line{State: 2, Good: 2, Room: 10})
		want(t, l, openLine(), []int{1, 0, 0}[line], api.OK)
	}
}

func TestReleaseEach(t *testing.T) {
	for line := range 3 {
		l := fresh(t, little(), same(1, 3), []int{4, 4, 4})
		for i := range 3 {
			want(t, l, useLine(i), 0, api.OK)
		}
		want(t, l, freeLine(line), 0, api.OK)
		want(t, l, freeLine(line), 0, api.ErrState)
		wantGet(t, l, line, api.Line{State: 0, Wear: 4, Good: 1, Room: 4})
		want(t, l, openLine(), line, api.OK)
		want(t, l, freeLine(line), 0, api.ErrState)
	}
}

// P12.3

func TestErasedUpToMaxWear(t *testing.T) {
	top := api.MaxWear
	l := fresh(t, little(), same(2, 3), []int{top - 2, top, top})
	want(t, l, openLine(), 0, api.OK)
	for _, wear := range []int{top - 1, top, top, top} {
		want(t, l, eraseLine(0), 0, api.OK)
		wantAll(t, l,
			api.Line{State: 1, Wear: wear, Good: 2, Room: 10},
			api.Line{State: 0, Wear: top, Good: 2, Room: 10},
			api.Line{State: 0, Wear: top, Good: 2, Room: 10})
	}
}

func TestErasedOnlyOpen(t *testing.T) {
	l := fresh(t, little(), same(2, 3), []int{1, 0, 1})
	want(t, l, eraseLine(1), 0, api.ErrState)
	want(t, l, openLine(), 1, api.OK)
	for n := range 5 { // more than once
		wantGet(t, l, 1, api.Line{State: 1, Wear: n, Good: 2, Room: 10})
		want(t, l, eraseLine(1), 0, api.OK)
	}
	want(t, l, eraseLine(0), 0, api.ErrState)
	want(t, l, closeLine(), 1, api.OK)
	want(t, l, eraseLine(1), 0, api.ErrState)
	want(t, l, freeLine(1), 0, api.OK)
	want(t, l, eraseLine(1), 0, api.ErrState)
	wantGet(t, l, 1, api.Line{State: 0, Wear: 5, Good: 2, Room: 10})
}

// A line that is Open is erased also if it has no good block left.
func TestErasedWithoutGoodBlock(t *testing.T) {
	l := fresh(t, little(), []int{1, 0, 0}, []int{8, 0, 0})
	wantOK(t, l, openLine(), loseBlock(0), eraseLine(0))
	wantGet(t, l, 0, api.Line{State: 1, Wear: 9})
}

// Lose down to no good block: a Free line is Dead then, an Open and a Closed one stay what they are.
func TestLoseToNone(t *testing.T) {
	g := shaped(8, 1, 3, 2)
	for _, c := range []struct {
		ahead       []op
		state, last int
	}{
		{nil, 0, 3},
		{[]op{openLine()}, 1, 1},
		{[]op{openLine(), closeLine()}, 2, 2},
		{[]op{useLine(0)}, 2, 2},
	} {
		l := fresh(t, g, []int{8}, []int{5})
		wantOK(t, l, c.ahead...)
		for good := 8; good > 0; good-- {
			wantAll(t, l, api.Line{State: c.state, Wear: 5, Good: good, Room: good*6 - 2})
			want(t, l, loseBlock(0), 0, api.OK)
		}
		for range 3 {
			wantAll(t, l, api.Line{State: c.last, Wear: 5})
			want(t, l, loseBlock(0), 0, api.ErrState)
		}
	}
}

// What Release makes of a line that has lost all blocks, or all but one, while it was Open or Closed.
func TestReleaseOfLost(t *testing.T) {
	for _, c := range []struct {
		good, last int
		ops        []op
	}{
		{1, 0, []op{openLine(), closeLine()}},
		{2, 0, []op{openLine(), loseBlock(0), closeLine()}},
		{2, 0, []op{useLine(0), loseBlock(0)}},
		{1, 3, []op{openLine(), loseBlock(0), closeLine()}},
		{1, 3, []op{openLine(), closeLine(), loseBlock(0)}},
		{2, 3, []op{openLine(), loseBlock(0), closeLine(), loseBlock(0)}},
		{2, 3, []op{useLine(0), loseBlock(0), loseBlock(0)}},
	} {
		l := fresh(t, shaped(2, 1, 3, 2), []int{c.good}, []int{5})
		wantOK(t, l, c.ops...)
		if got := l.Count(api.Closed); got != 1 {
			t.Errorf("%v: %d lines are closed", c.ops, got)
		}
		want(t, l, freeLine(0), 0, api.OK)
		if c.last == 0 {
			wantAll(t, l, api.Line{State: 0, Wear: 5, Good: 1, Room: 4})
			want(t, l, openLine(), 0, api.OK)
			continue
		}
		wantAll(t, l, api.Line{State: 3, Wear: 5})
		want(t, l, openLine(), 0, api.ErrFull)
		want(t, l, freeLine(0), 0, api.ErrState)
		want(t, l, useLine(0), 0, api.ErrState)
	}
}

func TestLoseIsTheLinesOwn(t *testing.T) {
	l := fresh(t, little(), same(2, 3), []int{1, 2, 3})
	want(t, l, loseBlock(1), 0, api.OK)
	wantAll(t, l,
		api.Line{Wear: 1, Good: 2, Room: 10},
		api.Line{Wear: 2, Good: 1, Room: 4},
		api.Line{Wear: 3, Good: 2, Room: 10})
	want(t, l, loseBlock(1), 0, api.OK)
	wantAll(t, l,
		api.Line{Wear: 1, Good: 2, Room: 10},
		api.Line{State: 3, Wear: 2},
		api.Line{Wear: 3, Good: 2, Room: 10})
}

// P12.4

// The room of a line of each number of good blocks, pages and sectors.
func TestRoom(t *testing.T) {
	for _, units := range []int{1, 2, 3, 4, 6, 8} {
		for pages := 1; pages <= api.MaxPages; pages++ {
			for sectors := 1; sectors <= api.MaxSectors; sectors++ {
				g := shaped(units, units+1, pages, sectors)
				o := newModel(g, nil, nil)
				for good := range units + 1 {
					o.good = append(o.good, good)
				}
				o = newModel(g, o.good, same(0, units+1))
				wantAll(t, fresh(t, g, o.good, o.wear), o.lines()...)
			}
		}
	}
}

func TestRoomInNumbers(t *testing.T) {
	for _, c := range []struct{ units, pages, sectors, good, room int }{
		{1, 1, 1, 1, 0}, // its only page is the mark's
		{2, 1, 4, 1, 0},
		{2, 1, 4, 2, 4},
		{2, 3, 2, 1, 4},
		{2, 3, 2, 2, 10},
		{2, 3, 2, 0, 0},
		{1, 2, 1, 1, 1},
		{8, 32, 4, 8, 1020},
		{8, 32, 4, 1, 124},
		{8, 32, 4, 0, 0},
	} {
		g := shaped(c.units, 1, c.pages, c.sectors)
		l := fresh(t, g, []int{c.good}, []int{0})
		got, err := l.Get(0)
		if got.Room != c.room || err != api.OK || l.Capacity() != c.room {
			t.Errorf("%+v: %+v, %v, %d", c, got, err, l.Capacity())
		}
	}
}

// The room does not hang on the state, and a line without room is opened as others are.
func TestRoomInEachState(t *testing.T) {
	l := fresh(t, shaped(1, 1, 1, 4), []int{1}, []int{0})
	for _, c := range []struct {
		o    op
		line api.Line
	}{
		{openLine(), api.Line{State: 1, Good: 1}},
		{eraseLine(0), api.Line{State: 1, Good: 1, Wear: 1}},
		{closeLine(), api.Line{State: 2, Good: 1, Wear: 1}},
		{freeLine(0), api.Line{State: 0, Good: 1, Wear: 1}},
		{loseBlock(0), api.Line{State: 3, Wear: 1}},
	} {
		want(t, l, c.o, 0, api.OK)
		wantAll(t, l, c.line)
	}
	l = fresh(t, shaped(2, 1, 3, 2), []int{2}, []int{0})
	for i, o := range []op{openLine(), closeLine(), freeLine(0)} {
		want(t, l, o, 0, api.OK)
		wantAll(t, l, api.Line{State: []int{1, 2, 0}[i], Good: 2, Room: 10})
	}
}

func TestCurrent(t *testing.T) {
	l := fresh(t, little(), same(1, 3), []int{2, 1, 0})
	wantCurrent := func(want int) {
		t.Helper()
		if got := l.Current(); got != want {
			t.Errorf("Current: %d, want %d", got, want)
		}
	}
	for _, line := range []int{2, 1, 0} {
		wantCurrent(-1)
		want(t, l, openLine(), line, api.OK)
		wantCurrent(line)
		want(t, l, eraseLine(line), 0, api.OK)
		want(t, l, loseBlock(line), 0, api.OK) // it is Open without a good block, too
		wantCurrent(line)
		want(t, l, closeLine(), line, api.OK)
	}
	wantCurrent(-1)
}

func TestCountOfEachState(t *testing.T) {
	l := fresh(t, shaped(2, 8, 3, 2), []int{2, 2, 2, 2, 2, 2, 0, 0}, same(0, 8))
	wantOK(t, l, useLine(1), useLine(3), useLine(5), loseBlock(4), loseBlock(4), openLine())
	for state, many := range []int{1, 1, 3, 3} {
		if got := l.Count(state); got != many {
			t.Errorf("Count(%d): %d, want %d", state, got, many)
		}
	}
	for _, state := range append(far(), 4, 5, 6, 7, 8, 1<<8, 1<<16) {
		if got := l.Count(state); got != 0 {
			t.Errorf("Count(%d): %d", state, got)
		}
	}
}

func TestCapacityBehindLose(t *testing.T) {
	l := fresh(t, little(), []int{2, 2, 1}, same(0, 3))
	wantOK(t, l, useLine(1), openLine())
	for _, c := range []struct{ line, room int }{{1, 18}, {0, 12}, {2, 8}, {0, 4}, {1, 0}} {
		want(t, l, loseBlock(c.line), 0, api.OK)
		if got := l.Capacity(); got != c.room {
			t.Errorf("behind a block of %d: %d, want %d", c.line, got, c.room)
		}
	}
	for line := range 3 {
		want(t, l, loseBlock(line), 0, api.ErrState)
	}
	if got := l.Capacity(); got != 0 {
		t.Errorf("Capacity of nothing: %d", got)
	}
}

// The capacity is that of all lines, whatever their states, and nothing but Lose changes it.
func TestCapacityOfAllStates(t *testing.T) {
	l := states(t)
	for _, o := range []op{eraseLine(1), closeLine(), freeLine(0), openLine(), useLine(2), openLine(), closeLine(), closeLine()} {
		call(l, o)
		if got := l.Capacity(); got != 30 {
			t.Errorf("behind %s: %d", o.name, got)
		}
	}
	g := shaped(8, 64, 32, 4)
	if got := fresh(t, g, same(8, 64), same(0, 64)).Capacity(); got != 64*1020 {
		t.Errorf("of the greatest device: %d", got)
	}
}

func TestAskingChangesNothing(t *testing.T) {
	l := states(t)
	for range 3 {
		wantAll(t, l, statesAre()...)
	}
}

func TestLinesAreApart(t *testing.T) {
	good, wear := same(2, 3), []int{2, 1, 1}
	a, b := fresh(t, little(), good, wear), fresh(t, little(), good, wear)
	o := newModel(little(), good, wear)
	for _, c := range []op{openLine(), eraseLine(1), loseBlock(0), closeLine(), useLine(0)} {
		both(t, a, o, c)
		wantAll(t, b, newModel(little(), good, wear).lines()...)
	}
	wantAll(t, a, o.lines()...)
}

// Each row of up to five calls, refused ones among them, on two lines of few blocks.
func TestAllOrdersOfCalls(t *testing.T) {
	ops := allOps(2)
	for _, good := range [][]int{{1, 2}, {1, 0}, {2, 1}} {
		g, wear := shaped(2, 2, 3, 2), []int{1, api.MaxWear - 1}
		var from func(done []op)
		from = func(done []op) {
			l, o := fresh(t, g, good, wear), newModel(g, good, wear)
			for _, c := range done {
				both(t, l, o, c)
			}
			wantAll(t, l, o.lines()...)
			if t.Failed() {
				t.Fatalf("good %v: %v", good, done)
			}
			if len(done) == 5 {
				return
			}
			for _, c := range ops {
				from(append(slices.Clip(done), c))
			}
		}
		from(nil)
	}
}

// walk is a fixed row of numbers that looks like one without a rule.
type walk uint64

func (w *walk) next(n int) int {
	*w = *w*6364136223846793005 + 1442695040888963407
	return int(uint64(*w) >> 33 % uint64(n))
}

func TestAgainstTheModel(t *testing.T) {
	for _, g := range []api.Geometry{
		shaped(1, 1, 1, 1), shaped(2, 3, 3, 2), shaped(4, 7, 4, 1), shaped(6, 20, 5, 3), shaped(8, 64, 32, 4),
	} {
		for seed := range 20 {
			walkLines(t, g, walk(seed))
			if t.Failed() {
				t.Fatalf("%v with the walk %d", g, seed)
			}
		}
	}
}

func walkLines(t *testing.T, g api.Geometry, w walk) {
	good, wear := make([]int, g.Blocks), make([]int, g.Blocks)
	bottom := []int{0, 1 << 20, api.MaxWear - 3}[w.next(3)]
	for i := range good {
		good[i], wear[i] = w.next(g.Chans*g.Luns+1), bottom+w.next(4)
	}
	l, o := fresh(t, g, good, wear), newModel(g, good, wear)
	for range 300 {
		c := allOps(0)[w.next(2)]
		if kind := w.next(10); kind < 7 {
			c = lineOps(w.next(g.Blocks+2) - 1)[w.next(4)]
			if c.name == "Lose" && w.next(3) > 0 { // or soon all lines are Dead
				c.name = "Release"
			}
			if kind < 2 {
				c = eraseLine(l.Current())
			}
		}
		both(t, l, o, c)
		wantAll(t, l, o.lines()...)
		if l.Count(api.Open) > 1 {
			t.Errorf("%d lines are open", l.Count(api.Open))
		}
	}
}

// The same calls are answered the same.
func TestSameCallsSameAnswers(t *testing.T) {
	g := shaped(2, 9, 3, 2)
	a, b := fresh(t, g, same(2, 9), same(3, 9)), fresh(t, g, same(2, 9), same(3, 9))
	w := walk(5)
	for range 500 {
		ops := allOps(9)
		c := ops[w.next(len(ops))]
		n, err := call(a, c)
		want(t, b, c, n, err)
	}
}

// P12.5

// wears are those of the lines that are not Dead.
func wears(t *testing.T, l *lines.Lines, many int) []int {
	t.Helper()
	var list []int
	for line := range many {
		one, err := l.Get(line)
		if err != api.OK {
			t.Fatalf("Get(%d): %v", line, err)
		}
		if one.State != api.Dead {
			list = append(list, one.Wear)
		}
	}
	return list
}

func wantEven(t *testing.T, l *lines.Lines, many int) {
	t.Helper()
	if list := wears(t, l, many); slices.Max(list)-slices.Min(list) > 1 {
		t.Errorf("wears are %v", list)
	}
}

// turn opens a line, erases it once, closes and releases it. The wears are even at each time.
func turn(t *testing.T, l *lines.Lines, many int) int {
	t.Helper()
	line, err := l.Open()
	if err != api.OK || l.Current() != line || l.Count(api.Open) != 1 {
		t.Fatalf("Open: %d, %v, Current %d, %d are open", line, err, l.Current(), l.Count(api.Open))
	}
	want(t, l, eraseLine(line), 0, api.OK)
	wantEven(t, l, many)
	want(t, l, closeLine(), line, api.OK)
	want(t, l, freeLine(line), 0, api.OK)
	return line
}

// All wears of up to six lines that differ by at most 1 at first; one of more than two lines is Dead.
func TestEvenWear(t *testing.T) {
	for many := 1; many <= 6; many++ {
		g := shaped(2, many, 3, 2)
		for set := range 1 << many {
			for _, bottom := range []int{0, 41, api.MaxWear - 1, api.MaxWear - 2} {
				good, wear := same(1, many), same(bottom, many)
				for i := range many {
					wear[i] += set >> i & 1
				}
				if many > 2 {
					good[set%many], wear[set%many] = 0, 7
				}
				l := fresh(t, g, good, wear)
				for range 4 * many {
					turn(t, l, many)
				}
				if t.Failed() {
					t.Fatalf("%d lines, set %b of bottom %d", many, set, bottom)
				}
			}
		}
	}
}

// Each line comes once in a round of all lines, in increasing order if they were even at first.
func TestEvenTurns(t *testing.T) {
	l := fresh(t, shaped(8, 64, 32, 4), same(8, 64), same(100, 64))
	for round := range 50 {
		for line := range 64 {
			if got := turn(t, l, 64); got != line {
				t.Fatalf("round %d: line %d, want %d", round, got, line)
			}
		}
	}
	for line := range 64 {
		wantGet(t, l, line, api.Line{Wear: 150, Good: 8, Room: 1020})
	}
}

// Lines that wait to be released till all are closed are even as well.
func TestEvenWearOfWholeRounds(t *testing.T) {
	l := fresh(t, shaped(2, 6, 3, 2), same(2, 6), []int{3, 4, 3, 4, 4, 3})
	w := walk(9)
	for range 40 {
		left := []int{0, 1, 2, 3, 4, 5}
		for range 6 {
			line, err := l.Open()
			if err != api.OK {
				t.Fatalf("Open: %v", err)
			}
			wantOK(t, l, eraseLine(line), closeLine())
		}
		want(t, l, openLine(), 0, api.ErrFull)
		wantEven(t, l, 6)
		for len(left) > 0 {
			i := w.next(len(left))
			want(t, l, freeLine(left[i]), 0, api.OK)
			left = slices.Delete(left, i, i+1)
		}
	}
}

func TestExamples(t *testing.T) {
	l := fresh(t, little(), same(2, 3), []int{2, 1, 1})
	want(t, l, openLine(), 1, api.OK)
	want(t, l, openLine(), 0, api.ErrState)
	want(t, l, eraseLine(1), 0, api.OK)
	want(t, l, closeLine(), 1, api.OK)
	want(t, l, openLine(), 2, api.OK)
	want(t, l, freeLine(1), 0, api.OK)
	if got := l.Count(api.Free); got != 2 {
		t.Errorf("Count: %d", got)
	}
	one := fresh(t, little(), []int{1, 2, 2}, []int{0, 0, 0})
	wantGet(t, one, 0, api.Line{Good: 1, Room: 4})
}
