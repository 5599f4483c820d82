package l2p_test

import (
	"bytes"
	"math"
	"slices"
	"testing"

	"strake/api"
	"strake/bits"
	"strake/l2p"
)

// little is a device of three lines of eight sectors.
func little() api.Geometry {
	return api.Geometry{Chans: 2, Luns: 1, Blocks: 3, Pages: 2, Sectors: 2}
}

// greatest is a device of 64 lines of 1024 sectors.
func greatest() api.Geometry {
	return api.Geometry{Chans: api.MaxChans, Luns: api.MaxLuns, Blocks: api.MaxBlocks, Pages: api.MaxPages, Sectors: api.MaxSectors}
}

func lineOf(g api.Geometry) int { return g.Chans * g.Luns * g.Pages * g.Sectors }

func allOf(g api.Geometry) int { return g.Blocks * lineOf(g) }

func fresh(t *testing.T, g api.Geometry, n int) *l2p.Map {
	t.Helper()
	m, err := l2p.New(g, n)
	if err != api.OK || m == nil {
		t.Fatalf("New(%v, %d): %v, %v", g, n, m, err)
	}
	return m
}

func data(addr, stamp int) api.Entry { return api.Entry{Addr: addr, Stamp: stamp, Kind: api.Data} }

func trim(addr, stamp int) api.Entry { return api.Entry{Addr: addr, Stamp: stamp, Kind: api.Trim} }

func unmapped() api.Entry { return api.Entry{Addr: -1} }

// far are numbers beyond all sectors, addresses and lines.
func far() []int {
	return []int{-1, -2, -64, -4096, -65536, 65536, 1<<31 - 1, 1 << 31, -1 << 31, 1 << 32, -1 << 32, 1<<32 + 1, 1 << 54, 1 << 58, 1 << 62, -1 << 62, math.MaxInt - 1, math.MaxInt, math.MinInt, math.MinInt + 1}
}

func wantSet(t *testing.T, m *l2p.Map, lba int, e api.Entry, want bool) {
	t.Helper()
	if is, err := m.Set(lba, e); is != want || err != api.OK {
		t.Errorf("Set(%d, %v): %v, %v, want %v", lba, e, is, err, want)
	}
}

func wantMove(t *testing.T, m *l2p.Map, lba, from, to int, want bool) {
	t.Helper()
	if is, err := m.Move(lba, from, to); is != want || err != api.OK {
		t.Errorf("Move(%d, %d, %d): %v, %v, want %v", lba, from, to, is, err, want)
	}
}

func wantNoSet(t *testing.T, m *l2p.Map, lba int, e api.Entry, want api.Errno) {
	t.Helper()
	if is, err := m.Set(lba, e); is || err != want {
		t.Errorf("Set(%d, %v): %v, %v, want %v", lba, e, is, err, want)
	}
}

func wantNoMove(t *testing.T, m *l2p.Map, lba, from, to int, want api.Errno) {
	t.Helper()
	if is, err := m.Move(lba, from, to); is || err != want {
		t.Errorf("Move(%d, %d, %d): %v, %v, want %v", lba, from, to, is, err, want)
	}
}

func wantGet(t *testing.T, m *l2p.Map, lba int, want api.Entry) {
	t.Helper()
	if e, err := m.Get(lba); e != want || err != api.OK {
		t.Errorf("Get(%d): %v, %v, want %v", lba, e, err, want)
	}
}

func wantLive(t *testing.T, m *l2p.Map, addr, lba int) {
	t.Helper()
	if got, is := m.Live(addr); got != lba || !is {
		t.Errorf("Live(%d): %d, %v, want %d", addr, got, is, lba)
	}
}

func wantDead(t *testing.T, m *l2p.Map, addr int) {
	t.Helper()
	if got, is := m.Live(addr); got != 0 || is {
		t.Errorf("Live(%d): %d, %v, want none", addr, got, is)
	}
}

// model is the map as the chapter has it: entries, and nothing else.
type model struct {
	g       api.Geometry
	entries []api.Entry
}

func newModel(g api.Geometry, n int) *model {
	return &model{g: g, entries: slices.Repeat([]api.Entry{unmapped()}, n)}
}

func (o *model) live(addr int) (int, bool) {
	for lba, e := range o.entries {
		if addr >= 0 && e.Addr == addr {
			return lba, true
		}
	}
	return 0, false
}

func (o *model) refuse(lba, addr int, right bool) api.Errno {
	if lba < 0 || lba >= len(o.entries) {
		return api.ErrRange
	}
	if addr < 0 || addr >= allOf(o.g) || !right {
		return api.ErrArg
	}
	if owner, is := o.live(addr); is && owner != lba {
		return api.ErrState
	}
	return api.OK
}

func (o *model) set(lba int, e api.Entry) (bool, api.Errno) {
	right := (e.Kind == 1 || e.Kind == 2) && e.Stamp > 0 && e.Stamp <= 1<<50
	if err := o.refuse(lba, e.Addr, right); err != api.OK {
		return false, err
	}
	if e.Stamp <= o.entries[lba].Stamp {
		return false, api.OK
	}
	o.entries[lba] = e
	return true, api.OK
}

func (o *model) move(lba, from, to int) (bool, api.Errno) {
	if err := o.refuse(lba, to, true); err != api.OK {
		return false, err
	}
	if o.entries[lba].Kind == 0 || o.entries[lba].Addr != from {
		return false, api.OK
	}
	o.entries[lba].Addr = to
	return true, api.OK
}

// wantAll holds everything that a map answers against the model.
func wantAll(t *testing.T, m *l2p.Map, o *model) {
	t.Helper()
	owners := map[int]int{}
	for lba, e := range o.entries {
		wantGet(t, m, lba, e)
		if e.Addr >= 0 {
			owners[e.Addr] = lba
		}
	}
	for addr := -1; addr <= allOf(o.g); addr++ {
		if lba, is := owners[addr]; is {
			wantLive(t, m, addr, lba)
		} else {
			wantDead(t, m, addr)
		}
	}
	wantLines(t, m, o.g, owners)
	if m.Many() != len(owners) {
		t.Errorf("Many: %d, want %d", m.Many(), len(owners))
	}
}

// wantLines holds what is said of the lines against the addresses that are taken.
func wantLines(t *testing.T, m *l2p.Map, g api.Geometry, owners map[int]int) {
	t.Helper()
	sum := 0
	for line := range g.Blocks {
		valid := 0
		list := make([]byte, (lineOf(g)+7)/8)
		for i := range lineOf(g) {
			if _, is := owners[line*lineOf(g)+i]; is {
				valid++
				list[i/8] |= 1 << (i % 8)
			}
		}
		if got := m.Valid(line); got != valid {
			t.Errorf("Valid(%d): %d, want %d", line, got, valid)
		}
		if got := m.Bits(line); !bytes.Equal(got, list) {
			t.Errorf("Bits(%d): %v, want %v", line, got, list)
		}
		sum += m.Valid(line)
	}
	if sum != m.Many() {
		t.Errorf("the lines have %d sectors, Many is %d", sum, m.Many())
	}
	for _, line := range append(far(), g.Blocks) {
		if got := m.Valid(line); got != 0 {
			t.Errorf("Valid(%d): %d", line, got)
		}
		if got := m.Bits(line); len(got) != 0 {
			t.Errorf("Bits(%d): %v", line, got)
		}
	}
}

// P11.1

func TestNewRefusesGeometries(t *testing.T) {
	for _, bad := range []int{-1, 0, 1 << 31, 1 << 32, 1<<32 + 1, 1 << 62, math.MinInt, math.MaxInt} {
		for which := range 5 {
			g := little()
			*[]*int{&g.Chans, &g.Luns, &g.Blocks, &g.Pages, &g.Sectors}[which] = bad
			wantNoNew(t, g, 1)
		}
	}
	most := []int{api.MaxChans, api.MaxLuns, api.MaxBlocks, api.MaxPages, api.MaxSectors}
	for which := range 5 {
		g := little()
		field := []*int{&g.Chans, &g.Luns, &g.Blocks, &g.Pages, &g.Sectors}[which]
		*field = most[which]
		fresh(t, g, 1)
		*field = most[which] + 1
		wantNoNew(t, g, 1)
	}
	wantNoNew(t, api.Geometry{}, 1)
	wantNoNew(t, api.Geometry{}, 0)
	wantNoNew(t, api.Geometry{Chans: -1, Luns: -1, Blocks: 3, Pages: 2, Sectors: 2}, 1)
}

func wantNoNew(t *testing.T, g api.Geometry, n int) {
	t.Helper()
	if m, err := l2p.New(g, n); m != nil || err != api.ErrArg {
		t.Errorf("New(%v, %d): %v, %v, want ErrArg", g, n, m, err)
	}
}

func TestNewRefusesNumbers(t *testing.T) {
	one := api.Geometry{Chans: 1, Luns: 1, Blocks: 1, Pages: 1, Sectors: 1}
	exact := api.Geometry{Chans: 4, Luns: 2, Blocks: 4, Pages: 32, Sectors: 4} // 4096 sectors
	less := api.Geometry{Chans: 3, Luns: 1, Blocks: 39, Pages: 7, Sectors: 4}
	for _, g := range []api.Geometry{one, little(), less, exact, greatest()} {
		for _, n := range append(far(), 0, 4097, 4098, allOf(g)+1) {
			wantNoNew(t, g, n)
		}
		fresh(t, g, 1)
		fresh(t, g, min(4096, allOf(g)))
	}
	if allOf(exact) != 4096 || allOf(less) >= 4096 || allOf(greatest()) <= 4097 {
		t.Error("the geometries are not at the edges")
	}
	wantNoNew(t, one, 2)
	wantNoNew(t, exact, 4097)
	wantNoNew(t, less, 4096)
}

func TestNewIsUnmapped(t *testing.T) {
	for _, n := range []int{1, 2, 23, 24} {
		wantAll(t, fresh(t, little(), n), newModel(little(), n))
	}
	wantAll(t, fresh(t, greatest(), 4096), newModel(greatest(), 4096))
}

func TestGetBeyond(t *testing.T) {
	for _, n := range []int{1, 5, 24} {
		m := fresh(t, little(), n)
		for lba := range n {
			wantSet(t, m, lba, data(lba, 1), true)
		}
		for _, lba := range append(far(), n, n+1, 63, 64, 4095, 4096) {
			if e, err := m.Get(lba); e != (api.Entry{}) || err != api.ErrRange {
				t.Errorf("of %d sectors Get(%d): %v, %v", n, lba, e, err)
			}
		}
		wantGet(t, m, 0, data(0, 1))
		wantGet(t, m, n-1, data(n-1, 1))
	}
}

// P11.2

func TestSetBeyondSectors(t *testing.T) {
	m, o := fresh(t, little(), 5), newModel(little(), 5)
	for _, lba := range append(far(), 5, 6, 63, 64, 4095, 4096) {
		wantNoSet(t, m, lba, data(0, 1), api.ErrRange)
	}
	wantAll(t, m, o)
	for _, lba := range []int{0, 4} {
		wantSet(t, m, lba, data(16+lba, 1), true)
		o.entries[lba] = data(16+lba, 1)
	}
	wantAll(t, m, o)
}

func TestSetBeyondAddresses(t *testing.T) {
	m, o := fresh(t, little(), 5), newModel(little(), 5)
	for _, addr := range append(far(), 24, 25, 63, 64) {
		wantNoSet(t, m, 2, data(addr, 1), api.ErrArg)
	}
	wantAll(t, m, o)
	for lba, addr := range []int{0, 23} {
		wantSet(t, m, lba, data(addr, 1), true)
		o.entries[lba] = data(addr, 1)
	}
	wantAll(t, m, o)

	great := fresh(t, greatest(), 4096)
	wantNoSet(t, great, 4095, data(65536, 1), api.ErrArg)
	wantSet(t, great, 4095, data(65535, 1), true)
	wantLive(t, great, 65535, 4095)
	wantGet(t, great, 4095, data(65535, 1))
}

func TestSetKinds(t *testing.T) {
	m, o := fresh(t, little(), 5), newModel(little(), 5)
	for _, kind := range append(far(), 0, api.Pad, api.Head, 5, 257, 258) {
		wantNoSet(t, m, 2, api.Entry{Addr: 3, Stamp: 9, Kind: kind}, api.ErrArg)
	}
	wantAll(t, m, o)
	wantSet(t, m, 2, data(3, 9), true)
	o.entries[2] = data(3, 9)
	wantSet(t, m, 3, trim(4, 9), true)
	o.entries[3] = trim(4, 9)
	wantAll(t, m, o)
	wantSet(t, m, 2, trim(3, 10), true)
	o.entries[2] = trim(3, 10)
	wantAll(t, m, o)
}

func TestSetStamps(t *testing.T) {
	m, o := fresh(t, little(), 5), newModel(little(), 5)
	for _, stamp := range []int{0, -1, 1<<50 + 1, 1 << 51, 1<<62 + 1, math.MaxInt, math.MinInt, -1 << 50} {
		wantNoSet(t, m, 2, data(3, stamp), api.ErrArg)
	}
	wantAll(t, m, o)
	wantSet(t, m, 2, data(3, 1), true)
	wantSet(t, m, 2, data(4, 1<<50-1), true)
	wantSet(t, m, 2, data(5, 1<<50), true)
	wantSet(t, m, 2, data(6, 1<<50), false)
	wantNoSet(t, m, 2, data(6, 1<<50+1), api.ErrArg)
	wantNoSet(t, m, 2, data(6, 0), api.ErrArg)
	o.entries[2] = data(5, 1<<50)
	wantAll(t, m, o)
}

func TestSetOlderSameNewer(t *testing.T) {
	for _, addr := range []int{3, 9} { // where it is, and elsewhere
		m, o := fresh(t, little(), 5), newModel(little(), 5)
		wantSet(t, m, 2, data(3, 7), true)
		o.entries[2] = data(3, 7)
		for _, stamp := range []int{1, 6, 7} {
			wantSet(t, m, 2, trim(addr, stamp), false)
			wantSet(t, m, 2, data(addr, stamp), false)
			wantAll(t, m, o)
		}
		wantSet(t, m, 2, trim(addr, 8), true)
		o.entries[2] = trim(addr, 8)
		wantAll(t, m, o)
		wantSet(t, m, 2, data(3, 7), false)
		wantAll(t, m, o)
	}
}

func TestSetStampsAreEachSectorsOwn(t *testing.T) {
	m, o := fresh(t, little(), 5), newModel(little(), 5)
	for lba, e := range []api.Entry{data(9, 5), data(8, 5), trim(7, 4), data(6, 1<<50), data(5, 1)} {
		wantSet(t, m, lba, e, true)
		o.entries[lba] = e
	}
	wantAll(t, m, o)
}

func TestSetWhereAnotherIs(t *testing.T) {
	m, o := fresh(t, little(), 5), newModel(little(), 5)
	wantSet(t, m, 0, data(3, 7), true)
	wantSet(t, m, 4, trim(5, 7), true)
	o.entries[0], o.entries[4] = data(3, 7), trim(5, 7)
	for _, stamp := range []int{1, 6, 7, 8, 1 << 50} {
		wantNoSet(t, m, 1, data(3, stamp), api.ErrState) // one that is unmapped
		wantNoSet(t, m, 4, data(3, stamp), api.ErrState)
		wantNoSet(t, m, 0, trim(5, stamp), api.ErrState)
	}
	wantAll(t, m, o)
}

func TestSetLeavesItsAddress(t *testing.T) {
	m, o := fresh(t, little(), 5), newModel(little(), 5)
	wantSet(t, m, 0, data(3, 7), true)
	wantSet(t, m, 0, data(4, 8), true)
	wantDead(t, m, 3)
	wantSet(t, m, 1, data(3, 2), true)
	wantNoSet(t, m, 0, data(3, 9), api.ErrState)
	o.entries[0], o.entries[1] = data(4, 8), data(3, 2)
	wantAll(t, m, o)
}

func TestSetFirstFault(t *testing.T) {
	m, o := fresh(t, little(), 5), newModel(little(), 5)
	wantSet(t, m, 0, data(3, 7), true)
	o.entries[0] = data(3, 7)
	wrong := []api.Entry{data(-1, 9), data(24, 9), {Addr: 3, Stamp: 9, Kind: 3}, {Addr: 3, Stamp: 9}, data(3, 0), data(3, 1<<50+1), {Addr: -1, Stamp: -1, Kind: -1}}
	for _, e := range wrong {
		wantNoSet(t, m, 5, e, api.ErrRange)
		wantNoSet(t, m, -1, e, api.ErrRange)
		wantNoSet(t, m, 1, e, api.ErrArg) // where another is, too
		wantNoSet(t, m, 0, e, api.ErrArg)
	}
	wantNoSet(t, m, 5, data(3, 9), api.ErrRange)
	wantNoSet(t, m, -1, data(3, 9), api.ErrRange)
	wantAll(t, m, o)
}

// P11.3

func TestMoveBeyondSectors(t *testing.T) {
	m, o := fresh(t, little(), 5), newModel(little(), 5)
	for lba := range 5 {
		wantSet(t, m, lba, data(lba, 1), true)
		o.entries[lba] = data(lba, 1)
	}
	for _, lba := range append(far(), 5, 6, 63, 64, 4095, 4096) {
		for _, from := range []int{-1, 0, 4, 9, lba} {
			wantNoMove(t, m, lba, from, 9, api.ErrRange)
		}
	}
	wantAll(t, m, o)
	wantMove(t, m, 0, 0, 9, true)
	wantMove(t, m, 4, 4, 10, true)
	o.entries[0], o.entries[4] = data(9, 1), data(10, 1)
	wantAll(t, m, o)
}

func TestMoveBeyondAddresses(t *testing.T) {
	m, o := fresh(t, little(), 5), newModel(little(), 5)
	wantSet(t, m, 2, trim(3, 7), true)
	o.entries[2] = trim(3, 7)
	for _, to := range append(far(), 24, 25, 63, 64) {
		wantNoMove(t, m, 2, 3, to, api.ErrArg)
		wantNoMove(t, m, 2, 4, to, api.ErrArg)  // not there
		wantNoMove(t, m, 1, -1, to, api.ErrArg) // unmapped
	}
	wantAll(t, m, o)
	for _, to := range []int{23, 0} {
		wantMove(t, m, 2, o.entries[2].Addr, to, true)
		o.entries[2].Addr = to
		wantAll(t, m, o)
	}
}

func TestMoveFromAnywhere(t *testing.T) {
	m, o := fresh(t, little(), 5), newModel(little(), 5)
	wantSet(t, m, 2, data(3, 7), true)
	wantSet(t, m, 1, data(11, 7), true)
	o.entries[2], o.entries[1] = data(3, 7), data(11, 7)
	for _, from := range append(far(), 0, 2, 4, 9, 11, 23, 24) {
		wantMove(t, m, 2, from, 9, false)
		wantMove(t, m, 2, from, 3, false)
		wantMove(t, m, 0, from, 9, false) // unmapped
	}
	wantMove(t, m, 0, 3, 9, false)
	wantAll(t, m, o)
}

func TestMoveKeepsTheRest(t *testing.T) {
	for _, e := range []api.Entry{data(3, 7), trim(3, 1), data(3, 1<<50)} {
		m, o := fresh(t, little(), 5), newModel(little(), 5)
		wantSet(t, m, 2, e, true)
		for _, to := range []int{3, 4, 4, 23, 0, 3} { // also to where it is
			before, _ := m.Get(2)
			wantMove(t, m, 2, before.Addr, to, true)
			o.entries[2] = api.Entry{Addr: to, Stamp: e.Stamp, Kind: e.Kind}
			wantAll(t, m, o)
		}
		wantSet(t, m, 2, data(5, e.Stamp), false) // the stamp is what it was
		wantAll(t, m, o)
	}
}

func TestMoveWhereAnotherIs(t *testing.T) {
	m, o := fresh(t, little(), 5), newModel(little(), 5)
	wantSet(t, m, 0, data(3, 7), true)
	wantSet(t, m, 1, trim(5, 8), true)
	o.entries[0], o.entries[1] = data(3, 7), trim(5, 8)
	wantNoMove(t, m, 1, 5, 3, api.ErrState)
	wantNoMove(t, m, 0, 3, 5, api.ErrState)
	wantNoMove(t, m, 0, 4, 5, api.ErrState)  // not there
	wantNoMove(t, m, 0, 5, 5, api.ErrState)  // not there, but the other one is
	wantNoMove(t, m, 2, -1, 3, api.ErrState) // unmapped
	wantNoMove(t, m, 2, 3, 3, api.ErrState)
	wantAll(t, m, o)
}

func TestMoveLeavesItsAddress(t *testing.T) {
	m, o := fresh(t, little(), 5), newModel(little(), 5)
	wantSet(t, m, 0, data(3, 7), true)
	wantSet(t, m, 1, data(5, 8), true)
	wantMove(t, m, 0, 3, 4, true)
	wantDead(t, m, 3)
	wantMove(t, m, 1, 5, 3, true)
	wantSet(t, m, 2, trim(5, 1), true)
	wantMove(t, m, 0, 3, 6, false) // it has left that one
	o.entries[0], o.entries[1], o.entries[2] = data(4, 7), data(3, 8), trim(5, 1)
	wantAll(t, m, o)
}

func TestMoveFirstFault(t *testing.T) {
	m, o := fresh(t, little(), 5), newModel(little(), 5)
	wantSet(t, m, 0, data(3, 7), true)
	o.entries[0] = data(3, 7)
	for _, to := range []int{-1, 24, 3, math.MaxInt, math.MinInt} {
		wantNoMove(t, m, 5, 3, to, api.ErrRange)
		wantNoMove(t, m, -1, -1, to, api.ErrRange)
	}
	wantAll(t, m, o)
}

// A sector that was moved in the meantime is not moved back, and one that was written in the meantime stays where it was written.
func TestMoveInTheMeantime(t *testing.T) {
	m, o := fresh(t, little(), 5), newModel(little(), 5)
	wantSet(t, m, 0, data(3, 7), true)
	wantSet(t, m, 0, data(4, 8), true)
	wantMove(t, m, 0, 3, 9, false)
	o.entries[0] = data(4, 8)
	wantAll(t, m, o)
	wantMove(t, m, 0, 4, 3, true)
	wantSet(t, m, 0, data(5, 8), false)
	wantSet(t, m, 0, data(5, 9), true)
	o.entries[0] = data(5, 9)
	wantAll(t, m, o)
}

// P11.4

func TestLiveOfNobodys(t *testing.T) {
	m := fresh(t, little(), 24)
	for lba := range 24 {
		wantDead(t, m, 23-lba)
		wantSet(t, m, lba, data(23-lba, 1), true)
	}
	for addr := range 24 {
		wantLive(t, m, addr, 23-addr)
	}
	for _, addr := range append(far(), 24, 25, 63, 64, 4096) {
		wantDead(t, m, addr)
	}
}

// Each address alone, in lines of many lengths: those that end within a byte, and those that are longer than a shard.
func TestLinesOfEachAddress(t *testing.T) {
	for _, g := range []api.Geometry{
		{Chans: 1, Luns: 1, Blocks: 1, Pages: 1, Sectors: 1},
		{Chans: 1, Luns: 1, Blocks: 64, Pages: 1, Sectors: 1},
		{Chans: 3, Luns: 1, Blocks: 2, Pages: 1, Sectors: 3},
		{Chans: 2, Luns: 2, Blocks: 2, Pages: 2, Sectors: 2},
		{Chans: 1, Luns: 2, Blocks: 3, Pages: 32, Sectors: 1},
		{Chans: 3, Luns: 2, Blocks: 2, Pages: 11, Sectors: 1},
		{Chans: 4, Luns: 1, Blocks: 3, Pages: 5, Sectors: 4},
	} {
		for addr := range allOf(g) {
			m, o := fresh(t, g, 1), newModel(g, 1)
			wantSet(t, m, 0, trim(addr, 1), true)
			o.entries[0] = trim(addr, 1)
			wantAll(t, m, o)
			if !bits.Right(m.Bits(addr/lineOf(g)), lineOf(g)) {
				t.Errorf("%v: Bits of the line of %d is no bitmap of %d bits", g, addr, lineOf(g))
			}
		}
	}
}

func TestLinesOfAFullDevice(t *testing.T) {
	g := api.Geometry{Chans: 3, Luns: 1, Blocks: 4, Pages: 3, Sectors: 3}
	m, o := fresh(t, g, 108), newModel(g, 108)
	for lba := range 108 {
		addr := lba * 25 % 108
		wantSet(t, m, lba, data(addr, 1), true)
		o.entries[lba] = data(addr, 1)
	}
	wantAll(t, m, o)
	for line := range 4 {
		if got := m.Bits(line); m.Valid(line) != 27 || !bytes.Equal(got, []byte{255, 255, 255, 7}) {
			t.Errorf("line %d: %d, %v", line, m.Valid(line), got)
		}
	}
	if m.Many() != 108 {
		t.Error(m.Many())
	}
}

func TestGreatestMap(t *testing.T) {
	m, o := fresh(t, greatest(), 4096), newModel(greatest(), 4096)
	for lba := range 4096 {
		addr := (lba*16 + lba%16) % 65536
		wantSet(t, m, lba, data(addr, lba+1), true)
		o.entries[lba] = data(addr, lba+1)
	}
	wantAll(t, m, o)
	for lba := range 2048 {
		from := o.entries[lba].Addr
		wantMove(t, m, lba, from, from^8, true)
		o.entries[lba].Addr = from ^ 8
	}
	wantAll(t, m, o)
}

func TestBitsAreTheCallers(t *testing.T) {
	m, o := fresh(t, little(), 5), newModel(little(), 5)
	wantSet(t, m, 2, data(9, 7), true)
	o.entries[2] = data(9, 7)
	for line := range 3 {
		first, second := m.Bits(line), m.Bits(line)
		for i := range first {
			first[i] = 255
		}
		_ = append(first[:0], 170, 170)
		if want := []byte{0, 2, 0}[line]; !bytes.Equal(second, []byte{want}) {
			t.Errorf("line %d: another result became %v", line, second)
		}
		wantAll(t, m, o)
	}
	before := m.Bits(1)
	wantSet(t, m, 3, data(8, 1), true)
	if !bytes.Equal(before, []byte{2}) {
		t.Errorf("a later call changed an earlier result to %v", before)
	}
}

func TestAskingChangesNothing(t *testing.T) {
	m, o := fresh(t, little(), 5), newModel(little(), 5)
	wantSet(t, m, 2, data(9, 7), true)
	o.entries[2] = data(9, 7)
	for range 3 {
		wantAll(t, m, o)
	}
}

func TestMapsAreApart(t *testing.T) {
	a, b := fresh(t, little(), 5), fresh(t, little(), 5)
	wantSet(t, a, 2, data(9, 7), true)
	wantAll(t, b, newModel(little(), 5))
	wantSet(t, b, 3, data(9, 1), true)
	wantGet(t, a, 3, unmapped())
	wantLive(t, a, 9, 2)
}

// P11.5

// Entries of three sectors with different stamps, in each of their orders: no two sectors share an address.
func TestAnyOrder(t *testing.T) {
	type change struct {
		lba int
		e   api.Entry
	}
	all := []change{{0, data(1, 4)}, {0, trim(2, 9)}, {0, data(3, 2)}, {1, data(9, 7)}, {1, data(8, 6)}, {4, trim(17, 1<<50)}}
	o := newModel(little(), 5)
	o.entries[0], o.entries[1], o.entries[4] = trim(2, 9), data(9, 7), trim(17, 1<<50)
	orders := 0
	permute(len(all), func(order []int) {
		orders++
		m := fresh(t, little(), 5)
		for _, i := range order {
			before, _ := m.Get(all[i].lba)
			wantSet(t, m, all[i].lba, all[i].e, all[i].e.Stamp > before.Stamp)
		}
		wantAll(t, m, o)
	})
	if orders != 720 {
		t.Errorf("%d orders", orders)
	}
}

func permute(n int, show func(order []int)) {
	order := make([]int, n)
	for i := range order {
		order[i] = i
	}
	var from func(i int)
	from = func(i int) {
		if i == n {
			show(order)
			return
		}
		for j := i; j < n; j++ {
			order[i], order[j] = order[j], order[i]
			from(i + 1)
			order[i], order[j] = order[j], order[i]
		}
	}
	from(0)
}

// walk is a fixed row of numbers that looks like one without a rule.
type walk uint64

func (w *walk) next(n int) int {
	*w = *w*6364136223846793005 + 1442695040888963407
	return int(uint64(*w) >> 33 % uint64(n))
}

func TestAgainstTheModel(t *testing.T) {
	for _, g := range []api.Geometry{
		{Chans: 1, Luns: 1, Blocks: 2, Pages: 4, Sectors: 2},
		little(),
		{Chans: 3, Luns: 2, Blocks: 5, Pages: 3, Sectors: 1},
		{Chans: 2, Luns: 1, Blocks: 7, Pages: 5, Sectors: 3},
	} {
		for _, n := range []int{1, 5, allOf(g) / 2, allOf(g)} {
			walkMap(t, g, n)
			if t.Failed() {
				t.Fatalf("%v with %d sectors", g, n)
			}
		}
	}
}

func walkMap(t *testing.T, g api.Geometry, n int) {
	w := walk(n)
	m, o := fresh(t, g, n), newModel(g, n)
	changed := 0
	for range 400 {
		lba, addr := w.next(n+2)-1, w.next(allOf(g)+2)-1
		if w.next(2) == 0 {
			e := api.Entry{Addr: addr, Stamp: w.next(60), Kind: w.next(20) % 4}
			got, err := m.Set(lba, e)
			if want, wantErr := o.set(lba, e); got != want || err != wantErr {
				t.Errorf("Set(%d, %v): %v, %v, want %v, %v", lba, e, got, err, want, wantErr)
			}
			changed += count(got)
		} else {
			from := w.next(allOf(g)+2) - 1
			if e, err := m.Get(lba); err == api.OK && w.next(4) > 0 {
				from = e.Addr
			}
			got, err := m.Move(lba, from, addr)
			if want, wantErr := o.move(lba, from, addr); got != want || err != wantErr {
				t.Errorf("Move(%d, %d, %d): %v, %v, want %v, %v", lba, from, addr, got, err, want, wantErr)
			}
			changed += count(got)
		}
		wantAll(t, m, o)
	}
	if changed < 20 {
		t.Errorf("only %d calls changed something", changed)
	}
}

func count(is bool) int {
	if is {
		return 1
	}
	return 0
}

// Live and Get are inverse, and the lines' Valid are Many, on a device so great that the model would be slow.
func TestInverseAndSum(t *testing.T) {
	g := greatest()
	m := fresh(t, g, 4096)
	w := walk(11)
	for i := range 6000 {
		lba, addr := w.next(4096), w.next(65536)
		if e, _ := m.Get(lba); e.Addr >= 0 && w.next(2) == 0 {
			m.Move(lba, e.Addr, addr)
		} else {
			m.Set(lba, data(addr, i+1))
		}
		if i%500 == 499 {
			wantInverse(t, m, g)
		}
	}
	if m.Many() < 2000 {
		t.Errorf("only %d sectors are mapped", m.Many())
	}
}

func wantInverse(t *testing.T, m *l2p.Map, g api.Geometry) {
	t.Helper()
	mapped, taken, sum := 0, 0, 0
	for lba := range 4096 {
		if e, _ := m.Get(lba); e.Addr >= 0 {
			mapped++
			wantLive(t, m, e.Addr, lba)
		}
	}
	for addr := range allOf(g) {
		if lba, is := m.Live(addr); is {
			taken++
			if e, err := m.Get(lba); e.Addr != addr || err != api.OK {
				t.Errorf("at %d is %d, which is at %d, %v", addr, lba, e.Addr, err)
			}
		}
	}
	for line := range g.Blocks {
		sum += m.Valid(line)
		if m.Valid(line) != bits.Count(m.Bits(line)) {
			t.Errorf("line %d: %d, %v", line, m.Valid(line), m.Bits(line))
		}
	}
	if many := m.Many(); mapped != many || taken != many || sum != many {
		t.Errorf("Many: %d, mapped %d, taken %d, in lines %d", many, mapped, taken, sum)
	}
}

// The same calls are answered the same.
func TestSameCallsSameAnswers(t *testing.T) {
	a, b := fresh(t, little(), 24), fresh(t, little(), 24)
	w := walk(3)
	for range 300 {
		lba, e := w.next(24), data(w.next(24), w.next(90)+1)
		gotA, errA := a.Set(lba, e)
		gotB, errB := b.Set(lba, e)
		if gotA != gotB || errA != errB {
			t.Errorf("Set(%d, %v): %v, %v and %v, %v", lba, e, gotA, errA, gotB, errB)
		}
	}
	for line := range 3 {
		if !bytes.Equal(a.Bits(line), b.Bits(line)) {
			t.Errorf("line %d: %v and %v", line, a.Bits(line), b.Bits(line))
		}
	}
}

func TestExamples(t *testing.T) {
	m := fresh(t, little(), 5)
	wantSet(t, m, 3, data(9, 5), true)
	wantSet(t, m, 3, data(8, 4), false)
	wantNoSet(t, m, 4, data(9, 9), api.ErrState)
	wantMove(t, m, 3, 8, 7, false)
	wantMove(t, m, 3, 9, 7, true)
	wantLive(t, m, 7, 3)
}
