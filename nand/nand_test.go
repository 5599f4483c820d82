package nand_test

import (
	"bytes"
	"math"
	"testing"

	"strake/api"
	"strake/geom"
	"strake/nand"
)

var (
	example = api.Geometry{Chans: 1, Luns: 1, Blocks: 2, Pages: 2, Sectors: 1}
	middle  = api.Geometry{Chans: 2, Luns: 2, Blocks: 3, Pages: 4, Sectors: 3}
	least   = api.Geometry{Chans: 1, Luns: 1, Blocks: 1, Pages: 1, Sectors: 1}
	most    = api.Geometry{Chans: 4, Luns: 2, Blocks: 64, Pages: 32, Sectors: 4}
)

// beyond are numbers that none of so many things has.
func beyond(many int) []int {
	return []int{-1, many, -2, many + 1, -many, 2 * many, 1 << 31, -1 << 31, 1 << 32, -1 << 32, 1 << 61, 1 << 62, -1 << 62, math.MaxInt, math.MinInt}
}

// some are so many strings of bytes of a size, each unlike the others; another seed has others.
func some(seed, many, size int) [][]byte {
	l := make([][]byte, many)
	for i := range l {
		l[i] = make([]byte, size)
		for j := range l[i] {
			l[i][j] = byte(seed*31 + i*7 + j*3 + seed>>8)
		}
	}
	return l
}

func dataOf(g api.Geometry, seed int) [][]byte { return some(seed, g.Sectors, api.SectorSize) }

func oobOf(g api.Geometry, seed int) [][]byte { return some(seed+100, g.Sectors, api.OobSize) }

func fresh(t *testing.T, g api.Geometry, bad ...int) *nand.Nand {
	t.Helper()
	d, err := nand.New(g, bad)
	if err != api.OK || d == nil {
		t.Fatalf("New(%v, %v): %v, %v", g, bad, d, err)
	}
	return d
}

func program(d *nand.Nand, unit, block, page, seed int) api.Errno {
	g := d.Geometry()
	return d.Program(unit, block, page, dataOf(g, seed), oobOf(g, seed))
}

func number(t *testing.T, g api.Geometry, unit, block, page, sector int) int {
	t.Helper()
	addr, err := geom.Number(g, api.Place{Unit: unit, Block: block, Page: page, Sector: sector})
	if err != api.OK {
		t.Fatalf("no place %d %d %d %d", unit, block, page, sector)
	}
	return addr
}

func wantErr(t *testing.T, what string, got, want api.Errno) {
	t.Helper()
	if got != want {
		t.Errorf("%s: %v, want %v", what, got, want)
	}
}

// wantNoRead tells that nothing stands beside the error.
func wantNoRead(t *testing.T, d *nand.Nand, addr int, want api.Errno) {
	t.Helper()
	data, oob, err := d.Read(addr)
	if err != want || len(data) != 0 || len(oob) != 0 {
		t.Errorf("Read(%d): %v, %v, %v, want %v", addr, data, oob, err, want)
	}
}

// wantPage tells that the first sectors of a page can be read, as many as given, and the others can't.
func wantPage(t *testing.T, d *nand.Nand, unit, block, page, seed, many int) {
	t.Helper()
	g := d.Geometry()
	for i := range g.Sectors {
		addr := number(t, g, unit, block, page, i)
		if i >= many {
			wantNoRead(t, d, addr, api.ErrRead)
			continue
		}
		data, oob, err := d.Read(addr)
		if err != api.OK || !bytes.Equal(data, dataOf(g, seed)[i]) || !bytes.Equal(oob, oobOf(g, seed)[i]) {
			t.Errorf("sector %d of page %d of block %d of unit %d: %v, %v, %v", i, page, block, unit, data, oob, err)
		}
	}
}

func wantBlock(t *testing.T, d *nand.Nand, unit, block, next, wear int, retired bool) {
	t.Helper()
	if n, w, r := d.Next(unit, block), d.Wear(unit, block), d.Retired(unit, block); n != next || w != wear || r != retired {
		t.Errorf("block %d of unit %d: next %d, wear %d, retired %v, want %d, %d, %v", block, unit, n, w, r, next, wear, retired)
	}
}

func wantWrong(t *testing.T, d *nand.Nand, want int) {
	t.Helper()
	if got := d.Wrong(); got != want {
		t.Errorf("Wrong: %d, want %d", got, want)
	}
}

func wantOff(t *testing.T, d *nand.Nand, want bool) {
	t.Helper()
	if got := d.Off(); got != want {
		t.Errorf("Off: %v, want %v", got, want)
	}
}

// sameState tells whether two devices whose power is on can't be told apart, but for their plans.
func sameState(t *testing.T, what string, d, e *nand.Nand) {
	t.Helper()
	g := d.Geometry()
	if g != e.Geometry() || d.Off() || e.Off() || d.Wrong() != e.Wrong() {
		t.Errorf("%s: %v %v %d, want %v %v %d", what, g, d.Off(), d.Wrong(), e.Geometry(), e.Off(), e.Wrong())
	}
	for unit := range geom.Units(g) {
		for block := range g.Blocks {
			wantBlock(t, d, unit, block, e.Next(unit, block), e.Wear(unit, block), e.Retired(unit, block))
		}
	}
	for addr := range geom.All(g) {
		data, oob, err := d.Read(addr)
		data2, oob2, err2 := e.Read(addr)
		if err != err2 || !bytes.Equal(data, data2) || !bytes.Equal(oob, oob2) {
			t.Errorf("%s: address %d: %v, %v, %v, want %v, %v, %v", what, addr, data, oob, err, data2, oob2, err2)
		}
	}
}

// used is a device of which some blocks are full, some begun, some erased, some retired.
func used(t *testing.T) *nand.Nand {
	t.Helper()
	d := fresh(t, middle, 11, 4)
	for page := range middle.Pages {
		wantErr(t, "full", program(d, 0, 0, page, page), api.OK)
		wantErr(t, "full", program(d, 2, 1, page, 10+page), api.OK)
	}
	wantErr(t, "begun", program(d, 1, 0, 0, 20), api.OK)
	wantErr(t, "begun", program(d, 2, 2, 0, 21), api.OK)
	wantErr(t, "begun", program(d, 2, 2, 1, 22), api.OK)
	wantErr(t, "erased", program(d, 3, 1, 0, 23), api.OK)
	wantErr(t, "erased", d.Erase(3, 1), api.OK)
	wantErr(t, "erased", d.Erase(0, 2), api.OK)
	wantErr(t, "retired", d.Retire(2, 2), api.OK)
	return d
}

// P8.1

func TestNewOfGeometries(t *testing.T) {
	for _, g := range []api.Geometry{least, most, example, middle, {Chans: 4, Luns: 1, Blocks: 1, Pages: 32, Sectors: 1}} {
		d := fresh(t, g)
		if d.Geometry() != g {
			t.Errorf("Geometry: %v, want %v", d.Geometry(), g)
		}
	}
	for _, g := range []api.Geometry{
		{},
		{Chans: 0, Luns: 1, Blocks: 1, Pages: 1, Sectors: 1}, {Chans: 5, Luns: 1, Blocks: 1, Pages: 1, Sectors: 1},
		{Chans: 1, Luns: 0, Blocks: 1, Pages: 1, Sectors: 1}, {Chans: 1, Luns: 3, Blocks: 1, Pages: 1, Sectors: 1},
		{Chans: 1, Luns: 1, Blocks: 0, Pages: 1, Sectors: 1}, {Chans: 1, Luns: 1, Blocks: 65, Pages: 1, Sectors: 1},
		{Chans: 1, Luns: 1, Blocks: 1, Pages: 0, Sectors: 1}, {Chans: 1, Luns: 1, Blocks: 1, Pages: 33, Sectors: 1},
		{Chans: 1, Luns: 1, Blocks: 1, Pages: 1, Sectors: 0}, {Chans: 1, Luns: 1, Blocks: 1, Pages: 1, Sectors: 5},
		{Chans: -1, Luns: -1, Blocks: 1, Pages: 1, Sectors: 1}, {Chans: 1, Luns: 1, Blocks: -1, Pages: -1, Sectors: 1},
		{Chans: math.MaxInt, Luns: math.MaxInt, Blocks: math.MaxInt, Pages: math.MaxInt, Sectors: math.MaxInt},
		{Chans: math.MinInt, Luns: 2, Blocks: 1, Pages: 1, Sectors: 1},
	} {
		for _, bad := range [][]int{nil, {}, {0}, {-1}} {
			if d, err := nand.New(g, bad); err != api.ErrArg || d != nil {
				t.Errorf("New(%v, %v): %v, %v", g, bad, d, err)
			}
		}
	}
}

func TestNewIsEmpty(t *testing.T) {
	for _, g := range []api.Geometry{least, example, middle, most} {
		for _, bad := range [][]int{nil, {}} {
			d := fresh(t, g, bad...)
			wantOff(t, d, false)
			wantWrong(t, d, 0)
			for unit := range geom.Units(g) {
				for block := range g.Blocks {
					wantBlock(t, d, unit, block, 0, 0, false)
				}
			}
			for addr := range geom.All(g) {
				wantNoRead(t, d, addr, api.ErrRead)
			}
		}
	}
}

func TestNewOfBadBlocks(t *testing.T) {
	for _, bad := range [][]int{{0}, {11}, {3}, {4}, {11, 0}, {5, 5}, {7, 2, 7, 2}, {0, 1, 2, 3, 4, 5, 6, 7, 8, 9, 10, 11}} {
		d := fresh(t, middle, bad...)
		for n := range 12 {
			listed := false
			for _, b := range bad {
				listed = listed || b == n
			}
			wantBlock(t, d, n/3, n%3, 0, 0, listed)
		}
		wantOff(t, d, false)
		wantWrong(t, d, 0)
	}
	d := fresh(t, most, 511)
	wantBlock(t, d, 7, 63, 0, 0, true)
	wantBlock(t, d, 7, 62, 0, 0, false)
	d = fresh(t, least, 0)
	wantBlock(t, d, 0, 0, 0, 0, true)
}

func TestNewOfNumbersThatNoBlockHas(t *testing.T) {
	for _, n := range beyond(12) {
		for _, bad := range [][]int{{n}, {0, n}, {n, 0}, {11, 11, n}, {3, n, 5}} {
			if d, err := nand.New(middle, bad); err != api.ErrArg || d != nil {
				t.Errorf("New(%v, %v): %v, %v", middle, bad, d, err)
			}
		}
	}
	if d, err := nand.New(least, []int{1}); err != api.ErrArg || d != nil {
		t.Errorf("New(%v, [1]): %v, %v", least, d, err)
	}
	if d, err := nand.New(most, []int{512}); err != api.ErrArg || d != nil {
		t.Errorf("New(%v, [512]): %v, %v", most, d, err)
	}
}

func TestNewLeavesItsArguments(t *testing.T) {
	bad := []int{3, 5}
	d := fresh(t, middle, bad...)
	if bad[0] != 3 || bad[1] != 5 {
		t.Error(bad)
	}
	bad[0], bad[1] = 0, 0
	wantBlock(t, d, 0, 0, 0, 0, false)
	wantBlock(t, d, 1, 0, 0, 0, true)
	wantErr(t, "Retire", d.Retire(0, 1), api.OK)
	if bad[0] != 0 || bad[1] != 0 {
		t.Error(bad)
	}
}

func TestGeometryIsACopy(t *testing.T) {
	g := example
	d := fresh(t, g)
	g.Blocks = 1
	got := d.Geometry()
	if got != example {
		t.Errorf("%v, want %v", got, example)
	}
	got.Pages, got.Sectors = 1, 4
	if d.Geometry() != example {
		t.Errorf("%v, want %v", d.Geometry(), example)
	}
	wantErr(t, "page 0", program(d, 0, 1, 0, 1), api.OK)
	wantErr(t, "page 1", program(d, 0, 1, 1, 1), api.OK)
}

func TestPlanReplaces(t *testing.T) {
	d := fresh(t, middle)
	d.Plan([]byte{1, 1, 1})
	wantErr(t, "the first plan", program(d, 0, 0, 0, 1), api.ErrProgram)
	d.Plan([]byte{0, 1})
	wantErr(t, "the second plan", program(d, 0, 0, 1, 1), api.OK)
	wantErr(t, "the second plan", program(d, 0, 0, 2, 1), api.ErrProgram)
	wantErr(t, "behind the last byte", program(d, 0, 0, 3, 1), api.OK)
	d.Plan([]byte{1})
	for _, none := range [][]byte{nil, {}} {
		d.Plan(none)
		wantErr(t, "no plan", d.Erase(0, 0), api.OK)
		d.Plan([]byte{1, 2})
	}
	l := []byte{3, 1, 3}
	d.Plan(l)
	if !bytes.Equal(l, []byte{3, 1, 3}) {
		t.Error(l)
	}
	l[0], l[1], l[2] = 1, 2, 1
	wantErr(t, "a plan's own bytes", d.Erase(0, 0), api.OK)
	wantErr(t, "a plan's own bytes", d.Erase(0, 0), api.ErrErase)
	wantErr(t, "a plan's own bytes", d.Erase(0, 0), api.OK)
	if !bytes.Equal(l, []byte{1, 2, 1}) {
		t.Error(l)
	}
}

// A plan can be laid down while the power is off: it is for what comes behind.
func TestPlanWhileOff(t *testing.T) {
	d := fresh(t, middle)
	d.Plan([]byte{2})
	wantErr(t, "Erase", d.Erase(0, 0), api.ErrOff)
	d.Plan([]byte{1})
	wantErr(t, "Erase while off", d.Erase(0, 1), api.ErrOff)
	wantOff(t, d, true)
	d.Power()
	wantErr(t, "the new plan", d.Erase(0, 1), api.ErrErase)
	wantErr(t, "the new plan's end", d.Erase(0, 1), api.OK)
}

func TestPowerChangesNothingElse(t *testing.T) {
	d, e := used(t), used(t)
	d.Power()
	d.Power()
	sameState(t, "Power while on", d, e)
	d.Plan([]byte{2, 1})
	wantErr(t, "Erase", d.Erase(1, 2), api.ErrOff)
	d.Power()
	wantOff(t, d, false)
	wantErr(t, "the rest of the plan", d.Erase(1, 2), api.ErrErase)
	e.Plan([]byte{1, 1})
	wantErr(t, "Erase", e.Erase(1, 2), api.ErrErase)
	wantErr(t, "Erase", e.Erase(1, 2), api.ErrErase)
	sameState(t, "Power while off", d, e)
}

// P8.2

func TestProgramEachPage(t *testing.T) {
	d := fresh(t, middle)
	seed := 0
	for page := range middle.Pages {
		for unit := range geom.Units(middle) {
			for block := range middle.Blocks {
				seed++
				wantBlock(t, d, unit, block, page, 0, false)
				wantErr(t, "Program", program(d, unit, block, page, seed), api.OK)
				wantBlock(t, d, unit, block, page+1, 0, false)
			}
		}
	}
	seed = 0
	for page := range middle.Pages {
		for unit := range geom.Units(middle) {
			for block := range middle.Blocks {
				seed++
				wantPage(t, d, unit, block, page, seed, middle.Sectors)
			}
		}
	}
	wantWrong(t, d, 0)
}

func TestProgramIsRefusedByPlace(t *testing.T) {
	d, e := used(t), used(t)
	wrong := 0
	refused := func(unit, block, page int) {
		wrong++
		wantErr(t, "Program", program(d, unit, block, page, 1), api.ErrArg)
		wantWrong(t, d, wrong)
	}
	for _, unit := range beyond(geom.Units(middle)) {
		refused(unit, 0, 0)
		refused(unit, 2, 0)
	}
	for _, block := range beyond(middle.Blocks) {
		refused(1, block, 1)
		refused(3, block, 0)
	}
	for _, page := range beyond(middle.Pages) {
		refused(1, 0, page)
		refused(0, 0, page) // a full block
		refused(1, 1, page) // a retired one
	}
	for range wrong {
		e.Retire(-1, 0)
	}
	sameState(t, "refused", d, e)
}

// A place that there isn't has the number of one that there is, if its parts are only added up.
func TestProgramOfPlacesThatRunOver(t *testing.T) {
	d := fresh(t, middle)
	for _, p := range [][3]int{{0, 3, 0}, {1, -1, 0}, {-1, 3, 0}, {4, -1, 0}, {3, -3, 0}, {0, 0, 4}, {0, 1, -1}, {1 << 62, 0, 0}, {0, 1 << 62, 0}} {
		wantErr(t, "Program", program(d, p[0], p[1], p[2], 1), api.ErrArg)
		wantErr(t, "Erase", d.Erase(p[0], p[1]), map[bool]api.Errno{true: api.OK, false: api.ErrArg}[p[2] != 0])
	}
}

func TestProgramIsRefusedByBytes(t *testing.T) {
	g := middle
	data, oob := dataOf(g, 1), oobOf(g, 1)
	swapped := func(l [][]byte, i int, one []byte) [][]byte {
		m := append([][]byte{}, l...)
		m[i] = one
		return m
	}
	type pair struct{ data, oob [][]byte }
	wrong := []pair{
		{nil, oob}, {data, nil}, {nil, nil}, {[][]byte{}, oob}, {data, [][]byte{}},
		{data[:2], oob}, {data, oob[:2]}, {data[:2], oob[:2]}, {data[:1], oob},
		{some(1, 4, 16), oob}, {data, some(1, 4, 17)}, {some(1, 4, 16), some(1, 4, 17)},
		{oob, data}, {data, data}, {oob, oob},
	}
	for i := range g.Sectors {
		for _, n := range []int{0, 1, 15, 17, 32} {
			wrong = append(wrong, pair{swapped(data, i, make([]byte, n)), oob})
		}
		for _, n := range []int{0, 1, 16, 18, 34} {
			wrong = append(wrong, pair{data, swapped(oob, i, make([]byte, n))})
		}
		wrong = append(wrong, pair{swapped(data, i, nil), oob}, pair{data, swapped(oob, i, nil)})
	}
	d, e := used(t), used(t)
	for i, w := range wrong {
		wantErr(t, "Program", d.Program(1, 0, 1, w.data, w.oob), api.ErrArg)
		wantWrong(t, d, i+1)
		e.Retire(0, -1)
	}
	sameState(t, "refused", d, e)
	wantErr(t, "Program", d.Program(1, 0, 1, data, oob), api.OK)
}

func TestProgramOfOneSector(t *testing.T) {
	d := fresh(t, example)
	one, beside := some(1, 1, 16), some(2, 1, 17)
	for _, wrong := range [][2][][]byte{{nil, nil}, {one, nil}, {nil, beside}, {some(1, 2, 16), beside}, {one, some(1, 2, 17)}, {{nil}, beside}, {one, {nil}}, {{{}}, {{}}}} {
		wantErr(t, "Program", d.Program(0, 0, 0, wrong[0], wrong[1]), api.ErrArg)
	}
	wantErr(t, "Program", d.Program(0, 0, 0, one, beside), api.OK)
}

func TestProgramOfRetired(t *testing.T) {
	d := fresh(t, middle, 5)
	for page := range middle.Pages {
		wantErr(t, "bad from the beginning", program(d, 1, 2, page, 1), api.ErrBad)
		wantPage(t, d, 1, 2, page, 1, 0)
	}
	wantErr(t, "Program", program(d, 0, 1, 0, 1), api.OK)
	wantErr(t, "Retire", d.Retire(0, 1), api.OK)
	wantErr(t, "its next page", program(d, 0, 1, 1, 2), api.ErrBad)
	wantErr(t, "its first page", program(d, 0, 1, 0, 2), api.ErrBad)
	wantBlock(t, d, 0, 1, 1, 0, true)
	wantPage(t, d, 0, 1, 0, 1, middle.Sectors)
	wantPage(t, d, 0, 1, 1, 2, 0)
	wantWrong(t, d, middle.Pages+2)
}

func TestProgramOutOfOrder(t *testing.T) {
	d := fresh(t, middle)
	for next := range middle.Pages {
		for page := range middle.Pages {
			if page != next {
				wantErr(t, "Program", program(d, 2, 1, page, 99), api.ErrOrder)
			}
		}
		wantBlock(t, d, 2, 1, next, 0, false)
		wantErr(t, "Program", program(d, 2, 1, next, next), api.OK)
	}
	for page := range middle.Pages {
		wantErr(t, "a full block", program(d, 2, 1, page, 99), api.ErrOrder)
		wantPage(t, d, 2, 1, page, page, middle.Sectors)
	}
	wantErr(t, "the page behind the last one", program(d, 2, 1, middle.Pages, 99), api.ErrArg)
	wantBlock(t, d, 2, 1, middle.Pages, 0, false)
	wantWrong(t, d, middle.Pages*middle.Pages+1)
}

// The errors come in this order: ErrOff, ErrArg, ErrBad, ErrOrder.
func TestProgramOrderOfErrors(t *testing.T) {
	d := fresh(t, middle, 0)
	data, oob := dataOf(middle, 1), oobOf(middle, 1)
	wantErr(t, "bytes, retired, order", d.Program(0, 0, 2, data[:1], oob), api.ErrArg)
	wantErr(t, "oob, retired, order", d.Program(0, 0, 2, data, oob[:1]), api.ErrArg)
	wantErr(t, "bytes, retired", d.Program(0, 0, 0, nil, nil), api.ErrArg)
	wantErr(t, "page, retired", d.Program(0, 0, 4, data, oob), api.ErrArg)
	wantErr(t, "bytes, order", d.Program(1, 0, 1, data, data), api.ErrArg)
	wantErr(t, "retired, order", d.Program(0, 0, 2, data, oob), api.ErrBad)
	wantErr(t, "order", d.Program(1, 0, 1, data, oob), api.ErrOrder)
	wantWrong(t, d, 7)
	d.Plan([]byte{2})
	wantErr(t, "Erase", d.Erase(1, 0), api.ErrOff)
	wantErr(t, "off, all", d.Program(-1, -1, -1, nil, nil), api.ErrOff)
	wantErr(t, "off, retired", d.Program(0, 0, 0, data, oob), api.ErrOff)
	wantErr(t, "off, order", d.Program(1, 1, 1, data, oob), api.ErrOff)
	wantErr(t, "off", d.Program(1, 1, 0, data, oob), api.ErrOff)
	wantWrong(t, d, 7)
}

func TestProgramGoodAndFail(t *testing.T) {
	d := fresh(t, middle)
	d.Plan([]byte{1, 0, 253, 3})
	wantErr(t, "1", program(d, 0, 0, 0, 1), api.ErrProgram)
	wantBlock(t, d, 0, 0, 1, 0, false)
	wantErr(t, "again", program(d, 0, 0, 0, 1), api.ErrOrder)
	wantErr(t, "0", program(d, 0, 0, 1, 2), api.OK)
	wantErr(t, "253", program(d, 0, 0, 2, 3), api.ErrProgram)
	wantErr(t, "3", program(d, 0, 0, 3, 4), api.OK)
	wantBlock(t, d, 0, 0, 4, 0, false)
	wantPage(t, d, 0, 0, 0, 1, 0)
	wantPage(t, d, 0, 0, 1, 2, 3)
	wantPage(t, d, 0, 0, 2, 3, 0)
	wantPage(t, d, 0, 0, 3, 4, 3)
	wantOff(t, d, false)
	wantWrong(t, d, 1)
}

func TestProgramCut(t *testing.T) {
	for sectors := 1; sectors <= api.MaxSectors; sectors++ {
		g := api.Geometry{Chans: 2, Luns: 1, Blocks: 2, Pages: 3, Sectors: sectors}
		for high := range 64 {
			d := fresh(t, g)
			wantErr(t, "Program", program(d, 1, 1, 0, 5), api.OK)
			d.Plan([]byte{byte(4*high + 2)})
			wantErr(t, "Cut", program(d, 1, 1, 1, 6), api.ErrOff)
			wantOff(t, d, true)
			wantBlock(t, d, 1, 1, 2, 0, false)
			wantNoRead(t, d, number(t, g, 1, 1, 0, 0), api.ErrOff)
			d.Power()
			wantPage(t, d, 1, 1, 0, 5, sectors)
			wantPage(t, d, 1, 1, 1, 6, high%(sectors+1))
			wantPage(t, d, 1, 1, 2, 7, 0)
			wantErr(t, "behind", program(d, 1, 1, 1, 7), api.ErrOrder)
			wantErr(t, "behind", program(d, 1, 1, 2, 7), api.OK)
			wantPage(t, d, 1, 1, 1, 6, high%(sectors+1))
			wantPage(t, d, 1, 1, 2, 7, sectors)
			wantWrong(t, d, 1)
		}
	}
}

// What is refused uses up nothing of the plan.
func TestRefusedUsesUpNoOutcome(t *testing.T) {
	d := fresh(t, middle, 0)
	d.Plan([]byte{1, 2, 1})
	for range 3 {
		wantErr(t, "Program", program(d, 0, 0, 0, 1), api.ErrBad)
		wantErr(t, "Program", program(d, 0, 1, 2, 1), api.ErrOrder)
		wantErr(t, "Program", program(d, 0, 3, 0, 1), api.ErrArg)
		wantErr(t, "Erase", d.Erase(0, 0), api.ErrBad)
		wantErr(t, "Erase", d.Erase(4, 0), api.ErrArg)
		wantErr(t, "Retire", d.Retire(1, 2), api.OK)
		wantErr(t, "Retire", d.Retire(-1, 0), api.ErrArg)
		wantNoRead(t, d, 0, api.ErrRead)
	}
	wantErr(t, "1", program(d, 0, 1, 0, 1), api.ErrProgram)
	wantErr(t, "2", d.Erase(0, 1), api.ErrOff)
	for range 3 {
		wantErr(t, "off", program(d, 0, 2, 0, 1), api.ErrOff)
		wantErr(t, "off", d.Erase(0, 2), api.ErrOff)
	}
	d.Power()
	wantErr(t, "1", d.Erase(0, 2), api.ErrErase)
	wantErr(t, "behind", d.Erase(0, 2), api.OK)
}

func TestProgramKeepsItsOwnBytes(t *testing.T) {
	d := fresh(t, middle)
	data, oob := dataOf(middle, 1), oobOf(middle, 1)
	wantErr(t, "Program", d.Program(3, 2, 0, data, oob), api.OK)
	for i := range data {
		if !bytes.Equal(data[i], dataOf(middle, 1)[i]) || !bytes.Equal(oob[i], oobOf(middle, 1)[i]) {
			t.Error("an argument was changed")
		}
		clear(data[i])
		clear(oob[i])
		data[i], oob[i] = nil, nil
	}
	wantPage(t, d, 3, 2, 0, 1, 3)
	// The same bytes for all sectors of a page.
	one, beside := some(7, 1, 16)[0], some(8, 1, 17)[0]
	wantErr(t, "Program", d.Program(3, 2, 1, [][]byte{one, one, one}, [][]byte{beside, beside, beside}), api.OK)
	got, gotOob, _ := d.Read(number(t, middle, 3, 2, 1, 0))
	clear(got)
	clear(gotOob)
	clear(one)
	got, gotOob, err := d.Read(number(t, middle, 3, 2, 1, 1))
	if err != api.OK || !bytes.Equal(got, some(7, 1, 16)[0]) || !bytes.Equal(gotOob, beside) {
		t.Error(got, gotOob, err)
	}
}

// P8.3

func TestErase(t *testing.T) {
	d := fresh(t, middle)
	for round := range 3 {
		for page := range middle.Pages {
			wantErr(t, "Program", program(d, 1, 2, page, round*10+page), api.OK)
		}
		wantErr(t, "Erase", d.Erase(1, 2), api.OK)
		wantBlock(t, d, 1, 2, 0, round+1, false)
		for page := range middle.Pages {
			wantPage(t, d, 1, 2, page, 0, 0)
		}
	}
	wantErr(t, "an erased block", d.Erase(1, 2), api.OK)
	wantErr(t, "a new block", d.Erase(0, 0), api.OK)
	wantBlock(t, d, 1, 2, 0, 4, false)
	wantBlock(t, d, 0, 0, 0, 1, false)
	wantErr(t, "Program", program(d, 1, 2, 0, 77), api.OK)
	wantErr(t, "a begun block", d.Erase(1, 2), api.OK)
	wantPage(t, d, 1, 2, 0, 77, 0)
	wantWrong(t, d, 0)
}

func TestEraseIsRefused(t *testing.T) {
	d, e := used(t), used(t)
	wrong := 0
	refused := func(unit, block int, want api.Errno) {
		wrong++
		wantErr(t, "Erase", d.Erase(unit, block), want)
		wantWrong(t, d, wrong)
		e.Retire(-1, -1)
	}
	for _, unit := range beyond(geom.Units(middle)) {
		refused(unit, 0, api.ErrArg)
		refused(unit, 1, api.ErrArg)
		refused(unit, -1, api.ErrArg)
	}
	for _, block := range beyond(middle.Blocks) {
		refused(0, block, api.ErrArg)
		refused(3, block, api.ErrArg)
	}
	refused(1, 1, api.ErrBad) // bad from the beginning
	refused(3, 2, api.ErrBad)
	refused(2, 2, api.ErrBad) // retired with sectors
	sameState(t, "refused", d, e)
}

func TestEraseOutcomes(t *testing.T) {
	for b := range 256 {
		d := fresh(t, middle)
		for page := range 2 {
			wantErr(t, "Program", program(d, 2, 0, page, page), api.OK)
		}
		d.Plan([]byte{byte(b)})
		err := d.Erase(2, 0)
		wantWrong(t, d, 0)
		switch b % 4 {
		case 0, 3:
			wantErr(t, "Erase", err, api.OK)
			wantOff(t, d, false)
			wantBlock(t, d, 2, 0, 0, 1, false)
		case 1:
			wantErr(t, "Erase", err, api.ErrErase)
			wantOff(t, d, false)
			wantBlock(t, d, 2, 0, middle.Pages, 1, false)
		case 2:
			wantErr(t, "Erase", err, api.ErrOff)
			wantOff(t, d, true)
			wantBlock(t, d, 2, 0, middle.Pages, 1, false)
			wantNoRead(t, d, 0, api.ErrOff)
			d.Power()
		}
		for page := range middle.Pages {
			wantPage(t, d, 2, 0, page, page, 0)
		}
	}
}

func TestAfterAnEraseThatFailed(t *testing.T) {
	for _, b := range []byte{1, 2} {
		d := fresh(t, middle)
		d.Plan([]byte{b})
		d.Erase(0, 1)
		d.Power()
		for page := range middle.Pages {
			wantErr(t, "Program", program(d, 0, 1, page, 1), api.ErrOrder)
		}
		wantBlock(t, d, 0, 1, middle.Pages, 1, false)
		wantErr(t, "Erase again", d.Erase(0, 1), api.OK)
		wantBlock(t, d, 0, 1, 0, 2, false)
		wantErr(t, "Program", program(d, 0, 1, 0, 1), api.OK)
		wantPage(t, d, 0, 1, 0, 1, 3)
	}
}

// P8.4

func TestReadOfAddresses(t *testing.T) {
	d := used(t)
	for _, addr := range beyond(geom.All(middle)) {
		wantNoRead(t, d, addr, api.ErrRange)
	}
	last := geom.All(middle) - 1
	wantNoRead(t, d, last, api.ErrRead)
	for page := range middle.Pages {
		wantErr(t, "Program", program(d, 0, 2, page, page), api.OK)
	}
	d2 := fresh(t, middle)
	for page := range middle.Pages {
		wantErr(t, "Program", program(d2, 3, 2, page, page), api.OK)
	}
	data, oob, err := d2.Read(last)
	if err != api.OK || !bytes.Equal(data, dataOf(middle, 3)[2]) || !bytes.Equal(oob, oobOf(middle, 3)[2]) {
		t.Error(data, oob, err)
	}
	wantNoRead(t, d2, last+1, api.ErrRange)
	wantWrong(t, d, 0)
	d.Plan([]byte{2})
	wantErr(t, "Erase", d.Erase(0, 0), api.ErrOff)
	for _, addr := range append(beyond(geom.All(middle)), 0, last) {
		wantNoRead(t, d, addr, api.ErrOff)
	}
	wantWrong(t, d, 0)
}

func TestReadIsACopy(t *testing.T) {
	d := fresh(t, middle)
	wantErr(t, "Program", program(d, 0, 0, 0, 9), api.OK)
	data, oob, _ := d.Read(1)
	if len(data) != api.SectorSize || len(oob) != api.OobSize {
		t.Fatal(data, oob)
	}
	clear(data)
	clear(oob)
	_ = append(data[:1], 1, 2, 3)
	wantPage(t, d, 0, 0, 0, 9, 3)
	first, firstOob, _ := d.Read(2)
	second, secondOob, _ := d.Read(2)
	first[0]++
	firstOob[0]++
	if first[0] == second[0] || firstOob[0] == secondOob[0] {
		t.Error("two answers share their bytes")
	}
}

func TestRetire(t *testing.T) {
	d := used(t)
	for range 2 {
		wantErr(t, "Retire", d.Retire(0, 0), api.OK)
		wantErr(t, "Retire", d.Retire(3, 1), api.OK)
	}
	wantErr(t, "a block that was bad", d.Retire(3, 2), api.OK)
	wantBlock(t, d, 0, 0, 4, 0, true)
	wantBlock(t, d, 3, 1, 0, 1, true)
	wantBlock(t, d, 3, 2, 0, 0, true)
	wantBlock(t, d, 0, 1, 0, 0, false)
	wantBlock(t, d, 0, 2, 0, 1, false)
	wantBlock(t, d, 1, 0, 1, 0, false)
	wantWrong(t, d, 0)
}

func TestRetireIsRefused(t *testing.T) {
	d, e := used(t), used(t)
	wrong := 0
	refused := func(unit, block int) {
		wrong++
		wantErr(t, "Retire", d.Retire(unit, block), api.ErrArg)
		wantWrong(t, d, wrong)
		e.Erase(4, 0)
	}
	for _, unit := range beyond(geom.Units(middle)) {
		refused(unit, 0)
		refused(unit, 2)
	}
	for _, block := range beyond(middle.Blocks) {
		refused(0, block)
		refused(2, block)
	}
	sameState(t, "refused", d, e)
	d.Plan([]byte{2})
	wantErr(t, "Erase", d.Erase(0, 1), api.ErrOff)
	wantErr(t, "off", d.Retire(0, 0), api.ErrOff)
	wantErr(t, "off, no such block", d.Retire(-1, 0), api.ErrOff)
	wantBlock(t, d, 0, 0, 4, 0, false)
	wantWrong(t, d, wrong)
}

func TestPropertiesOfNoBlock(t *testing.T) {
	d := fresh(t, middle, 0, 1, 2, 3, 4, 5, 6, 7, 8, 9, 10, 11)
	e := fresh(t, middle)
	for unit := range geom.Units(middle) {
		for block := range middle.Blocks {
			wantErr(t, "Erase", e.Erase(unit, block), api.OK)
			wantErr(t, "Program", program(e, unit, block, 0, 1), api.OK)
		}
	}
	for _, one := range []*nand.Nand{d, e} {
		for _, unit := range beyond(geom.Units(middle)) {
			wantBlock(t, one, unit, 0, 0, 0, false)
			wantBlock(t, one, unit, 2, 0, 0, false)
		}
		for _, block := range beyond(middle.Blocks) {
			wantBlock(t, one, 0, block, 0, 0, false)
			wantBlock(t, one, 3, block, 0, 0, false)
		}
		wantBlock(t, one, 1, -1, 0, 0, false)
		wantBlock(t, one, -1, 3, 0, 0, false)
		wantWrong(t, one, 0)
	}
}

func TestPropertiesWhileOff(t *testing.T) {
	d := used(t)
	wantErr(t, "Retire", d.Retire(0, 0), api.OK)
	d.Plan([]byte{2})
	wantErr(t, "Erase", d.Erase(2, 1), api.ErrOff)
	wantBlock(t, d, 0, 0, 4, 0, true)
	wantBlock(t, d, 2, 1, 4, 1, false)
	wantBlock(t, d, 1, 0, 1, 0, false)
	wantBlock(t, d, 3, 1, 0, 1, false)
	wantBlock(t, d, 2, 2, 2, 0, true)
	wantBlock(t, d, 4, 0, 0, 0, false)
	wantBlock(t, d, 0, -1, 0, 0, false)
	if d.Geometry() != middle || d.Wrong() != 0 {
		t.Error(d.Geometry(), d.Wrong())
	}
}

// P8.5

func TestWrong(t *testing.T) {
	d := fresh(t, middle, 0)
	for i, call := range []struct {
		what  string
		do    func() api.Errno
		err   api.Errno
		count int
	}{
		{"Program", func() api.Errno { return program(d, 4, 0, 0, 1) }, api.ErrArg, 1},
		{"Program", func() api.Errno { return program(d, 0, 0, 0, 1) }, api.ErrBad, 2},
		{"Program", func() api.Errno { return program(d, 0, 1, 1, 1) }, api.ErrOrder, 3},
		{"Program", func() api.Errno { return program(d, 0, 1, 0, 1) }, api.OK, 3},
		{"Erase", func() api.Errno { return d.Erase(0, 3) }, api.ErrArg, 4},
		{"Erase", func() api.Errno { return d.Erase(0, 0) }, api.ErrBad, 5},
		{"Erase", func() api.Errno { return d.Erase(0, 1) }, api.OK, 5},
		{"Retire", func() api.Errno { return d.Retire(-1, 0) }, api.ErrArg, 6},
		{"Retire", func() api.Errno { return d.Retire(3, 0) }, api.OK, 6},
		{"Retire", func() api.Errno { return d.Retire(3, 0) }, api.OK, 6},
		{"Read", func() api.Errno { _, _, err := d.Read(-1); return err }, api.ErrRange, 6},
		{"Read", func() api.Errno { _, _, err := d.Read(0); return err }, api.ErrRead, 6},
		{"Program", func() api.Errno { d.Plan([]byte{1}); return program(d, 0, 1, 0, 1) }, api.ErrProgram, 6},
		{"Erase", func() api.Errno { d.Plan([]byte{1}); return d.Erase(0, 1) }, api.ErrErase, 6},
		{"Program", func() api.Errno { d.Plan([]byte{2}); return program(d, 0, 2, 0, 1) }, api.ErrOff, 6},
		{"Program", func() api.Errno { return program(d, -1, 0, 0, 1) }, api.ErrOff, 6},
		{"Erase", func() api.Errno { return d.Erase(0, 0) }, api.ErrOff, 6},
		{"Retire", func() api.Errno { return d.Retire(0, 9) }, api.ErrOff, 6},
		{"Read", func() api.Errno { _, _, err := d.Read(-1); return err }, api.ErrOff, 6},
		{"Erase", func() api.Errno { d.Power(); d.Plan([]byte{2}); return d.Erase(0, 2) }, api.ErrOff, 6},
		{"Erase", func() api.Errno { d.Power(); return d.Erase(0, 0) }, api.ErrBad, 7},
	} {
		if err := call.do(); err != call.err || d.Wrong() != call.count {
			t.Errorf("call %d, %s: %v, Wrong %d, want %v, %d", i, call.what, err, d.Wrong(), call.err, call.count)
		}
	}
	if d.Retired(9, 9) || d.Next(-1, 0) != 0 || d.Wear(0, 64) != 0 {
		t.Error("no such block")
	}
	wantWrong(t, d, 7)
	wantWrong(t, fresh(t, middle), 0)
}

// P8.6

// What is done to one block changes nothing of the others.
func TestOtherBlocks(t *testing.T) {
	for _, b := range []byte{0, 1, 2, 6} {
		for unit := range geom.Units(middle) {
			for block := range middle.Blocks {
				d := fresh(t, middle)
				for u := range geom.Units(middle) {
					for k := range middle.Blocks {
						wantErr(t, "Program", program(d, u, k, 0, u*8+k), api.OK)
					}
				}
				d.Plan([]byte{b, b, 0})
				program(d, unit, block, 1, 99)
				d.Power()
				d.Erase(unit, block)
				d.Power()
				wantErr(t, "Retire", d.Retire(unit, block), api.OK)
				for u := range geom.Units(middle) {
					for k := range middle.Blocks {
						if u != unit || k != block {
							wantBlock(t, d, u, k, 1, 0, false)
							wantPage(t, d, u, k, 0, u*8+k, 3)
							wantPage(t, d, u, k, 1, 0, 0)
						}
					}
				}
			}
		}
	}
}

func TestOtherDevices(t *testing.T) {
	d, e := fresh(t, middle), fresh(t, middle)
	d.Plan([]byte{0, 2})
	wantErr(t, "Program", program(d, 0, 0, 0, 1), api.OK)
	wantErr(t, "Erase", d.Erase(0, 1), api.ErrOff)
	d.Retire(0, 0)
	wantOff(t, e, false)
	wantBlock(t, e, 0, 0, 0, 0, false)
	wantNoRead(t, e, 0, api.ErrRead)
	wantErr(t, "Erase", e.Erase(0, 1), api.OK)
}

func TestWhileOffNothingChanges(t *testing.T) {
	for _, cut := range []func(d *nand.Nand) api.Errno{
		func(d *nand.Nand) api.Errno { return d.Erase(2, 1) },
		func(d *nand.Nand) api.Errno { return program(d, 1, 0, 1, 40) },
	} {
		d, e := used(t), used(t)
		for _, one := range []*nand.Nand{d, e} {
			one.Plan([]byte{6, 1})
			wantErr(t, "Cut", cut(one), api.ErrOff)
		}
		for unit := -1; unit <= geom.Units(middle); unit++ {
			for block := -1; block <= middle.Blocks; block++ {
				for page := -1; page <= middle.Pages; page++ {
					wantErr(t, "Program", program(d, unit, block, page, 1), api.ErrOff)
				}
				wantErr(t, "Erase", d.Erase(unit, block), api.ErrOff)
				wantErr(t, "Retire", d.Retire(unit, block), api.ErrOff)
			}
		}
		wantOff(t, d, true)
		d.Power()
		e.Power()
		sameState(t, "while off", d, e)
		wantErr(t, "the plan's next byte", d.Erase(0, 1), api.ErrErase)
	}
}

func TestRetiredRemainsReadable(t *testing.T) {
	d := used(t)
	wantErr(t, "Retire", d.Retire(0, 0), api.OK)
	for page := range middle.Pages {
		wantErr(t, "Program", program(d, 0, 0, page, 90), api.ErrBad)
	}
	wantErr(t, "Erase", d.Erase(0, 0), api.ErrBad)
	d.Plan([]byte{2})
	wantErr(t, "Erase", d.Erase(0, 1), api.ErrOff)
	d.Power()
	for page := range middle.Pages {
		wantPage(t, d, 0, 0, page, page, 3)
	}
	wantPage(t, d, 2, 2, 0, 21, 3)
	wantPage(t, d, 2, 2, 1, 22, 3)
	wantPage(t, d, 2, 2, 2, 22, 0)
	wantBlock(t, d, 0, 0, 4, 0, true)
}

func TestTheExample(t *testing.T) {
	d := fresh(t, example)
	wantErr(t, "page 1", program(d, 0, 0, 1, 1), api.ErrOrder)
	wantErr(t, "page 0", program(d, 0, 0, 0, 2), api.OK)
	wantPage(t, d, 0, 0, 0, 2, 1)
	wantNoRead(t, d, 1, api.ErrRead)
	d.Plan([]byte{2})
	wantErr(t, "Erase", d.Erase(0, 0), api.ErrOff)
	wantNoRead(t, d, 0, api.ErrOff)
	d.Power()
	wantNoRead(t, d, 0, api.ErrRead)
	wantBlock(t, d, 0, 0, 2, 1, false)
}

// model is the chapter as it is written, for the tests alone.
type model struct {
	g       api.Geometry
	left    []byte
	next    map[[2]int]int
	wear    map[[2]int]int
	retired map[[2]int]bool
	seeds   map[api.Place]int
	off     bool
	wrong   int
}

func newModel(g api.Geometry, bad []int) *model {
	m := &model{g: g, next: map[[2]int]int{}, wear: map[[2]int]int{}, retired: map[[2]int]bool{}, seeds: map[api.Place]int{}}
	for _, n := range bad {
		m.retired[[2]int{n / g.Blocks, n % g.Blocks}] = true
	}
	return m
}

func (m *model) has(unit, block int) bool {
	return unit >= 0 && unit < m.g.Chans*m.g.Luns && block >= 0 && block < m.g.Blocks
}

func (m *model) take() byte {
	if len(m.left) == 0 {
		return 0
	}
	b := m.left[0]
	m.left = m.left[1:]
	return b
}

func (m *model) wrongly(err api.Errno) api.Errno {
	m.wrong++
	return err
}

func (m *model) program(unit, block, page, seed int) api.Errno {
	k := [2]int{unit, block}
	switch {
	case m.off:
		return api.ErrOff
	case !m.has(unit, block) || page < 0 || page >= m.g.Pages:
		return m.wrongly(api.ErrArg)
	case m.retired[k]:
		return m.wrongly(api.ErrBad)
	case m.next[k] != page:
		return m.wrongly(api.ErrOrder)
	}
	m.next[k] = page + 1
	b := m.take()
	many, err := m.g.Sectors, api.OK
	switch b % 4 {
	case 1:
		many, err = 0, api.ErrProgram
	case 2:
		many, err = int(b)/4%(m.g.Sectors+1), api.ErrOff
		m.off = true
	}
	for i := range many {
		m.seeds[api.Place{Unit: unit, Block: block, Page: page, Sector: i}] = seed
	}
	return err
}

func (m *model) erase(unit, block int) api.Errno {
	k := [2]int{unit, block}
	switch {
	case m.off:
		return api.ErrOff
	case !m.has(unit, block):
		return m.wrongly(api.ErrArg)
	case m.retired[k]:
		return m.wrongly(api.ErrBad)
	}
	m.wear[k]++
	for p := range m.seeds {
		if p.Unit == unit && p.Block == block {
			delete(m.seeds, p)
		}
	}
	m.next[k] = m.g.Pages
	switch m.take() % 4 {
	case 1:
		return api.ErrErase
	case 2:
		m.off = true
		return api.ErrOff
	}
	m.next[k] = 0
	return api.OK
}

func (m *model) retire(unit, block int) api.Errno {
	switch {
	case m.off:
		return api.ErrOff
	case !m.has(unit, block):
		return m.wrongly(api.ErrArg)
	}
	m.retired[[2]int{unit, block}] = true
	return api.OK
}

// addressed goes through the places in the order of their addresses.
func (m *model) addressed(visit func(api.Place)) {
	for block := range m.g.Blocks {
		for page := range m.g.Pages {
			for unit := range m.g.Chans * m.g.Luns {
				for sector := range m.g.Sectors {
					visit(api.Place{Unit: unit, Block: block, Page: page, Sector: sector})
				}
			}
		}
	}
}

func (m *model) compare(t *testing.T, d *nand.Nand) {
	t.Helper()
	wantOff(t, d, m.off)
	wantWrong(t, d, m.wrong)
	for unit := -1; unit <= m.g.Chans*m.g.Luns; unit++ {
		for block := -1; block <= m.g.Blocks; block++ {
			k := [2]int{unit, block}
			wantBlock(t, d, unit, block, m.next[k], m.wear[k], m.retired[k])
		}
	}
	addr := 0
	m.addressed(func(p api.Place) {
		seed, ok := m.seeds[p]
		data, oob, err := d.Read(addr)
		switch {
		case m.off:
			wantNoRead(t, d, addr, api.ErrOff)
		case !ok:
			wantNoRead(t, d, addr, api.ErrRead)
		case err != api.OK || !bytes.Equal(data, dataOf(m.g, seed)[p.Sector]) || !bytes.Equal(oob, oobOf(m.g, seed)[p.Sector]):
			t.Errorf("address %d: %v, %v, %v, want seed %d", addr, data, oob, err, seed)
		}
		addr++
	})
}

// dice throws numbers that look like chance, the same ones each time.
func dice(seed uint64) func(many int) int {
	return func(many int) int {
		seed = seed*6364136223846793005 + 1442695040888963407
		return int(seed>>33) % many
	}
}

func TestLongRuns(t *testing.T) {
	for run, g := range []api.Geometry{
		least, example, middle,
		{Chans: 3, Luns: 1, Blocks: 2, Pages: 3, Sectors: 2}, {Chans: 1, Luns: 2, Blocks: 5, Pages: 2, Sectors: 4},
		{Chans: 4, Luns: 2, Blocks: 2, Pages: 2, Sectors: 1}, {Chans: 2, Luns: 1, Blocks: 4, Pages: 5, Sectors: 2},
	} {
		throw := dice(uint64(run + 1))
		var bad []int
		if g.Blocks > 2 {
			bad = []int{throw(g.Blocks)}
		}
		d, m := fresh(t, g, bad...), newModel(g, bad)
		for step := 1; step <= 1500 && !t.Failed(); step++ {
			unit, block := throw(g.Chans*g.Luns+1), throw(g.Blocks+1)
			switch throw(12) {
			case 0, 1:
				wantErr(t, "Erase", d.Erase(unit, block), m.erase(unit, block))
			case 2:
				if throw(40) == 0 {
					wantErr(t, "Retire", d.Retire(unit, block), m.retire(unit, block))
				}
			case 3:
				l := []byte{byte(throw(256)), byte(throw(256)), byte(throw(256))}
				d.Plan(l)
				m.left = l
			case 4:
				d.Power()
				m.off = false
			case 5:
				page := throw(g.Pages + 1)
				wantErr(t, "Program", program(d, unit, block, page, step), m.program(unit, block, page, step))
			default:
				page := d.Next(unit, block)
				wantErr(t, "Program", program(d, unit, block, page, step), m.program(unit, block, page, step))
			}
			if step%7 == 0 {
				m.compare(t, d)
			}
		}
	}
}
