package scan_test

import (
	"bytes"
	"encoding/binary"
	"hash/crc32"
	"slices"
	"testing"

	"strake/api"
	"strake/nand"
	"strake/scan"
)

// The chapters' limits.
const (
	maxLba   = 1<<31 - 1
	maxStamp = 1 << 50
	maxWear  = 1<<31 - 1
)

var (
	example = api.Geometry{Chans: 1, Luns: 1, Blocks: 2, Pages: 2, Sectors: 1}
	middle  = api.Geometry{Chans: 2, Luns: 2, Blocks: 3, Pages: 4, Sectors: 3}
	least   = api.Geometry{Chans: 1, Luns: 1, Blocks: 1, Pages: 1, Sectors: 1}
	most    = api.Geometry{Chans: 4, Luns: 2, Blocks: 64, Pages: 32, Sectors: 4}
	// row are the geometries that have one of all but one of their things.
	row = []api.Geometry{
		{Chans: 4, Luns: 1, Blocks: 1, Pages: 1, Sectors: 1}, {Chans: 1, Luns: 2, Blocks: 1, Pages: 1, Sectors: 1},
		{Chans: 1, Luns: 1, Blocks: 64, Pages: 1, Sectors: 1}, {Chans: 1, Luns: 1, Blocks: 1, Pages: 32, Sectors: 1},
		{Chans: 1, Luns: 1, Blocks: 1, Pages: 1, Sectors: 4},
	}
)

// piece is a sector, and what stands beside it.
type piece struct{ data, beside []byte }

// zeros are a new sector without anything.
func zeros() []byte { return make([]byte, 16) }

// bytesOf are a new sector, another one for each seed.
func bytesOf(seed int) []byte {
	b := zeros()
	for i := range b {
		b[i] = byte(seed*59 + seed>>8*41 + i*i*73 + i*seed + 19)
	}
	return b
}

// packed are the metadata beside a sector as chapter 5 has them, whether they are valid or not.
func packed(o api.Oob, data []byte) []byte {
	b := []byte{byte(o.Kind)}
	for _, n := range []int{o.Lba, o.Stamp, o.Stamp >> 32} {
		b = binary.LittleEndian.AppendUint32(b, uint32(n))
	}
	return binary.LittleEndian.AppendUint32(b, crc32.ChecksumIEEE(slices.Concat(b, data)))
}

// marked is a mark's sector as chapter 6 has it, whether the mark is valid or not.
func marked(m api.Mark) []byte {
	b := []byte{'H', 'L', byte(m.Line), byte('A' + m.Wear%7)}
	for _, n := range []int{m.Wear, m.Stamp, m.Stamp >> 32} {
		b = binary.LittleEndian.AppendUint32(b, uint32(n))
	}
	return b
}

func pieceOf(o api.Oob, data []byte) piece { return piece{data, packed(o, data)} }

func dataPiece(lba, stamp int) piece {
	return pieceOf(api.Oob{Kind: 1, Lba: lba, Stamp: stamp}, bytesOf(lba+stamp))
}

func trimPiece(lba, stamp int) piece {
	return pieceOf(api.Oob{Kind: 2, Lba: lba, Stamp: stamp}, zeros())
}

func padPiece() piece { return pieceOf(api.Oob{Kind: 3}, zeros()) }

// headPiece is the sector of a mark, with other metadata if there are some.
func headPiece(m api.Mark, other ...api.Oob) piece {
	o := api.Oob{Kind: 4, Lba: m.Line, Stamp: m.Stamp}
	if len(other) > 0 {
		o = other[0]
	}
	return pieceOf(o, marked(m))
}

// blank is a sector without metadata.
func blank() piece { return piece{zeros(), make([]byte, 17)} }

// turned is a piece with some bits of it turned, which are counted through the metadata and on through the sector.
func (p piece) turned(bits ...int) piece {
	all := slices.Concat(p.beside, p.data)
	for _, bit := range bits {
		all[bit/8] ^= 1 << (bit % 8)
	}
	return piece{all[17:], all[:17]}
}

// told are the metadata of a piece by the words of chapter 5.
func (p piece) told() (api.Oob, bool) {
	part := func(at int) uint64 { return uint64(binary.LittleEndian.Uint32(p.beside[at:])) }
	kind, lba, stamp := p.beside[0], part(1), part(9)<<32|part(5)
	sum := crc32.ChecksumIEEE(slices.Concat(p.beside[:13], p.data))
	if kind < 1 || kind > 4 || lba > maxLba || stamp > maxStamp || part(13) != uint64(sum) {
		return api.Oob{}, false
	}
	return api.Oob{Kind: int(kind), Lba: int(lba), Stamp: int(stamp)}, true
}

// twin is a device, and a record by chapter 8 of what has become of it.
type twin struct {
	t       *testing.T
	d       *nand.Nand
	g       api.Geometry
	units   int
	there   map[int]piece // by address
	next    map[[2]int]int
	retired map[[2]int]bool
}

func twinOf(t *testing.T, g api.Geometry, bad ...int) *twin {
	t.Helper()
	d, err := nand.New(g, bad)
	if err != api.OK {
		t.Fatalf("New(%v, %v): %v", g, bad, err)
	}
	w := &twin{t, d, g, g.Chans * g.Luns, map[int]piece{}, map[[2]int]int{}, map[[2]int]bool{}}
	for _, n := range bad {
		w.retired[[2]int{n / g.Blocks, n % g.Blocks}] = true
	}
	return w
}

// addr is an address by chapter 3.
func (w *twin) addr(unit, block, page, sector int) int {
	return ((block*w.g.Pages+page)*w.units+unit)*w.g.Sectors + sector
}

func (w *twin) all() int { return w.units * w.g.Blocks * w.g.Pages * w.g.Sectors }

// page is a whole one, with pads behind the first pieces.
func (w *twin) page(first []piece) (data, beside [][]byte) {
	for i := range w.g.Sectors {
		p := padPiece()
		if i < len(first) {
			p = first[i]
		}
		data, beside = append(data, p.data), append(beside, p.beside)
	}
	return data, beside
}

// programAs writes a block's next page by a plan's byte.
func (w *twin) programAs(plan byte, unit, block int, first ...piece) {
	w.t.Helper()
	id := [2]int{unit, block}
	page := w.next[id]
	w.next[id]++
	data, beside := w.page(first)
	w.d.Plan([]byte{plan})
	err := w.d.Program(unit, block, page, data, beside)
	many, want := len(data), api.OK
	switch plan % 4 {
	case 1:
		many, want = 0, api.ErrProgram
	case 2:
		many, want = int(plan/4)%(w.g.Sectors+1), api.ErrOff
	}
	for i := range many {
		w.there[w.addr(unit, block, page, i)] = piece{data[i], beside[i]}
	}
	if err != want {
		w.t.Fatalf("Program(%d, %d, %d): %v, want %v", unit, block, page, err, want)
	}
}

func (w *twin) program(unit, block int, first ...piece) {
	w.t.Helper()
	w.programAs(0, unit, block, first...)
}

// eraseAs erases a block by a plan's byte.
func (w *twin) eraseAs(plan byte, unit, block int) {
	w.t.Helper()
	id := [2]int{unit, block}
	want := []api.Errno{api.OK, api.ErrErase, api.ErrOff, api.OK}[plan%4]
	w.next[id] = w.g.Pages
	if want == api.OK {
		w.next[id] = 0
	}
	for page := range w.g.Pages {
		for i := range w.g.Sectors {
			delete(w.there, w.addr(unit, block, page, i))
		}
	}
	w.d.Plan([]byte{plan})
	if err := w.d.Erase(unit, block); err != want {
		w.t.Fatalf("Erase(%d, %d): %v, want %v", unit, block, err, want)
	}
}

func (w *twin) erase(unit, block int) {
	w.t.Helper()
	w.eraseAs(0, unit, block)
}

func (w *twin) retire(unit, block int) {
	w.t.Helper()
	w.retired[[2]int{unit, block}] = true
	if err := w.d.Retire(unit, block); err != api.OK {
		w.t.Fatalf("Retire(%d, %d): %v", unit, block, err)
	}
}

// found is what Scan is to answer, by the chapter's words.
func (w *twin) found() (found []api.Found) {
	for addr := range w.all() {
		if p, ok := w.there[addr]; ok {
			if o, ok := p.told(); ok && o.Kind != 3 {
				found = append(found, api.Found{Addr: addr, Oob: o, Data: p.data})
			}
		}
	}
	return found
}

func (w *twin) goods() (goods []int) {
	for block := range w.g.Blocks {
		good := 0
		for unit := range w.units {
			if !w.retired[[2]int{unit, block}] {
				good++
			}
		}
		goods = append(goods, good)
	}
	return goods
}

func (w *twin) wears() (wears []int) {
	found := w.found()
	size := w.units * w.g.Pages * w.g.Sectors
	for block := range w.g.Blocks {
		first := slices.IndexFunc(found, func(f api.Found) bool { return f.Addr/size == block && isMark(f, block) })
		wear := 0
		if first >= 0 {
			wear = int(binary.LittleEndian.Uint32(found[first].Data[4:]))
		}
		wears = append(wears, wear)
	}
	return wears
}

// isMark tells by the words of the chapter, and of chapter 6, whether a sector has a line's mark.
func isMark(f api.Found, line int) bool {
	part := func(at int) int { return int(binary.LittleEndian.Uint32(f.Data[at:])) }
	m := api.Mark{Line: line, Wear: part(4), Stamp: part(12)<<32 | part(8)}
	if m.Wear > maxWear || m.Stamp < 0 || m.Stamp > maxStamp {
		return false
	}
	return f.Oob == api.Oob{Kind: 4, Lba: line, Stamp: m.Stamp} && bytes.Equal(f.Data, marked(m))
}

func sameFound(a, b api.Found) bool {
	return a.Addr == b.Addr && a.Oob == b.Oob && bytes.Equal(a.Data, b.Data)
}

func wantFound(t *testing.T, d *nand.Nand, want ...api.Found) {
	t.Helper()
	got, err := scan.Scan(d)
	if err != api.OK || !slices.EqualFunc(got, want, sameFound) {
		t.Errorf("Scan: %v, %v, want %v", got, err, want)
	}
}

func wantGoods(t *testing.T, d *nand.Nand, want ...int) {
	t.Helper()
	if got, err := scan.Goods(d); err != api.OK || !slices.Equal(got, want) {
		t.Errorf("Goods: %v, %v, want %v", got, err, want)
	}
}

func wantWears(t *testing.T, d *nand.Nand, want ...int) {
	t.Helper()
	if got, err := scan.Wears(d); err != api.OK || !slices.Equal(got, want) {
		t.Errorf("Wears: %v, %v, want %v", got, err, want)
	}
}

// want holds what the device answers against the record.
func (w *twin) want() {
	w.t.Helper()
	wantFound(w.t, w.d, w.found()...)
	wantGoods(w.t, w.d, w.goods()...)
	wantWears(w.t, w.d, w.wears()...)
}

// wantNone tells that all calls answer that error, and nothing beside it.
func wantNone(t *testing.T, d *nand.Nand, want api.Errno) {
	t.Helper()
	if l, err := scan.Scan(d); err != want || len(l) != 0 {
		t.Errorf("Scan: %v, %v, want %v", l, err, want)
	}
	if l, err := scan.Goods(d); err != want || len(l) != 0 {
		t.Errorf("Goods: %v, %v, want %v", l, err, want)
	}
	if l, err := scan.Wears(d); err != want || len(l) != 0 {
		t.Errorf("Wears: %v, %v, want %v", l, err, want)
	}
}

// state is all that can be observed of a device whose power is on.
type state struct {
	g       api.Geometry
	wrong   int
	blocks  []int
	sectors []string
}

func stateOf(d *nand.Nand) *state {
	g := d.Geometry()
	s := &state{g: g, wrong: d.Wrong()}
	units := g.Chans * g.Luns
	for unit := range units {
		for block := range g.Blocks {
			retired := 0
			if d.Retired(unit, block) {
				retired = 1
			}
			s.blocks = append(s.blocks, d.Next(unit, block), d.Wear(unit, block), retired)
		}
	}
	for addr := range units * g.Blocks * g.Pages * g.Sectors {
		data, beside, err := d.Read(addr)
		s.sectors = append(s.sectors, string(data), string(beside), err.Error())
	}
	return s
}

func wantState(t *testing.T, d *nand.Nand, want *state) {
	t.Helper()
	got := stateOf(d)
	if d.Off() || got.g != want.g || got.wrong != want.wrong || !slices.Equal(got.blocks, want.blocks) || !slices.Equal(got.sectors, want.sectors) {
		t.Error("the device has changed")
	}
}

// used is a device with sectors of all kinds, marks, retired blocks, and blocks that were erased.
func used(t *testing.T) *twin {
	t.Helper()
	w := twinOf(t, middle, 11, 4)
	for block := range 2 {
		w.program(0, block, headPiece(api.Mark{Line: block, Wear: 4 + block, Stamp: 9}))
		for i := range 3 {
			w.program(0, block, dataPiece(i, 10+i), trimPiece(i, 20+i), dataPiece(i+3, 30+i).turned(i*40))
			w.program(2, block, padPiece(), dataPiece(9, 40+i), blank())
		}
	}
	w.program(1, 2, headPiece(api.Mark{Line: 2, Wear: 8, Stamp: 1}))
	w.erase(1, 2)
	w.eraseAs(1, 0, 2)
	w.program(2, 2, dataPiece(7, 1), headPiece(api.Mark{Line: 2, Wear: 9, Stamp: 1}))
	w.retire(2, 2)
	w.programAs(1, 1, 0, dataPiece(1, 1))
	return w
}

// walk are numbers that look like chance, and are the same each time.
type walk uint64

func (w *walk) next(n int) int {
	*w = *w*6364136223846793005 + 1442695040888963407
	return int(uint64(*w) >> 33 % uint64(n))
}

// P17.1

func TestNil(t *testing.T) {
	for range 3 {
		wantNone(t, nil, api.ErrArg)
	}
}

func TestOff(t *testing.T) {
	for _, off := range []func(w *twin){
		func(w *twin) { w.programAs(2, 1, 0, dataPiece(3, 4)) },
		func(w *twin) { w.programAs(2+4*2, 1, 0, dataPiece(3, 4), dataPiece(5, 6)) },
		func(w *twin) { w.eraseAs(2, 0, 0) },
		func(w *twin) { w.eraseAs(2, 3, 1) },
	} {
		w := used(t)
		off(w)
		for range 2 {
			wantNone(t, w.d, api.ErrOff)
		}
		if !w.d.Off() {
			t.Error("the power has come by itself")
		}
		wantNone(t, nil, api.ErrArg)
		w.d.Power()
		w.want()
	}
}

func TestOffWithoutSectors(t *testing.T) {
	for _, g := range append(row, least, example, middle, most) {
		w := twinOf(t, g)
		w.eraseAs(2, w.units-1, g.Blocks-1)
		wantNone(t, w.d, api.ErrOff)
		w.d.Power()
		w.want()
	}
}

// An error is that of one call alone: another device is answered as ever.
func TestErrorsOfOthers(t *testing.T) {
	on, off := used(t), used(t)
	off.eraseAs(2, 0, 0)
	for range 2 {
		wantNone(t, nil, api.ErrArg)
		on.want()
		wantNone(t, off.d, api.ErrOff)
		on.want()
	}
}

// A device that was not made by New is none that anything is promised of, but the calls end.
func TestDeviceThatIsNotMade(t *testing.T) {
	wantNone(t, &nand.Nand{}, api.OK)
}

func TestNothingIsChanged(t *testing.T) {
	calls := []func(d *nand.Nand){
		func(d *nand.Nand) { scan.Scan(d) },
		func(d *nand.Nand) { scan.Goods(d) },
		func(d *nand.Nand) { scan.Wears(d) },
	}
	w := used(t)
	w.d.Erase(3, 2)
	w.d.Program(0, 0, 9, nil, nil)
	before := stateOf(w.d)
	for i := range calls {
		for j := range calls {
			for k := range calls {
				calls[i](w.d)
				wantState(t, w.d, before)
				calls[j](w.d)
				calls[k](w.d)
				wantState(t, w.d, before)
				w.want()
			}
		}
	}
}

// What the plan has left is the same after the calls, and while the power is off.
func TestPlanIsNotUsed(t *testing.T) {
	w := used(t)
	w.d.Plan([]byte{0, 1, 2, 1})
	steps := []api.Errno{api.OK, api.ErrErase, api.ErrOff, api.ErrErase, api.OK}
	for _, want := range steps {
		for range 3 {
			scan.Scan(w.d)
			scan.Goods(w.d)
			scan.Wears(w.d)
		}
		w.d.Power()
		if err := w.d.Erase(3, 1); err != want {
			t.Errorf("Erase: %v, want %v", err, want)
		}
	}
}

func TestAllCallsInEveryOrder(t *testing.T) {
	w := used(t)
	calls := []func(){
		func() { wantFound(t, w.d, w.found()...) },
		func() { wantGoods(t, w.d, w.goods()...) },
		func() { wantWears(t, w.d, w.wears()...) },
		func() { w.erase(0, 1) },
		func() { w.program(0, 1, headPiece(api.Mark{Line: 1, Wear: 77, Stamp: 3})) },
		func() { w.program(0, 1, trimPiece(6, 8)) },
	}
	for i := range calls {
		for j := range calls {
			calls[3]()
			calls[i]()
			calls[j]()
			w.want()
		}
	}
}

// P17.2

func TestExample(t *testing.T) {
	w := twinOf(t, example)
	wantFound(t, w.d)
	wantWears(t, w.d, 0, 0)
	wantGoods(t, w.d, 1, 1)
	wantNone(t, nil, api.ErrArg)
}

func TestNothingWritten(t *testing.T) {
	for _, g := range append(row, least, example, middle, most) {
		w := twinOf(t, g)
		wantFound(t, w.d)
		wantGoods(t, w.d, slices.Repeat([]int{g.Chans * g.Luns}, g.Blocks)...)
		wantWears(t, w.d, make([]int, g.Blocks)...)
		w.want()
	}
}

func TestFirstAndLast(t *testing.T) {
	w := twinOf(t, example)
	for range 2 {
		w.program(0, 0, dataPiece(3, 4))
		w.program(0, 1, trimPiece(5, 6))
	}
	zero := api.Oob{Kind: api.Data, Lba: 3, Stamp: 4}
	one := api.Oob{Kind: api.Trim, Lba: 5, Stamp: 6}
	wantFound(t, w.d,
		api.Found{Addr: 0, Oob: zero, Data: bytesOf(7)}, api.Found{Addr: 1, Oob: zero, Data: bytesOf(7)},
		api.Found{Addr: 2, Oob: one, Data: zeros()}, api.Found{Addr: 3, Oob: one, Data: zeros()})
	w.want()
}

// One sector alone says something, in each place of the device.
func TestEachPlace(t *testing.T) {
	for _, g := range append(row, least, example, middle) {
		w := twinOf(t, g)
		for unit := range w.units {
			for block := range g.Blocks {
				for page := range g.Pages {
					for i := range g.Sectors {
						w.erase(unit, block)
						for range page {
							w.program(unit, block)
						}
						p := dataPiece(unit+i, block+page+1)
						w.program(unit, block, append(slices.Repeat([]piece{padPiece()}, i), p)...)
						o, _ := p.told()
						wantFound(t, w.d, api.Found{Addr: w.addr(unit, block, page, i), Oob: o, Data: p.data})
						w.want()
					}
				}
				w.erase(unit, block)
			}
		}
	}
}

func TestFullDevices(t *testing.T) {
	for _, g := range append(row, least, example, middle, most) {
		w := twinOf(t, g)
		// The last blocks first, so that the order is that of the addresses, not that in which they were written.
		for block := g.Blocks - 1; block >= 0; block-- {
			for unit := w.units - 1; unit >= 0; unit-- {
				for page := range g.Pages {
					var pieces []piece
					for i := range g.Sectors {
						addr := w.addr(unit, block, page, i)
						pieces = append(pieces, dataPiece(addr, addr%97))
					}
					w.program(unit, block, pieces...)
				}
			}
		}
		found, err := scan.Scan(w.d)
		if err != api.OK || len(found) != w.all() {
			t.Errorf("%d of %d, %v", len(found), w.all(), err)
		}
		for i, f := range found {
			if f.Addr != i || f.Oob.Lba != i || !bytes.Equal(f.Data, bytesOf(i+i%97)) {
				t.Errorf("the %d-th: %v", i, f)
			}
		}
		w.want()
	}
}

// wrongKinds are those that no metadata have, among them such as would be right if they were cut off.
func wrongKinds() []int { return []int{0, 5, 6, 7, 8, 127, 128, 129, 130, 132, 254, 255} }

func TestKinds(t *testing.T) {
	for kind := range 256 {
		w := twinOf(t, example)
		data := bytesOf(kind)
		o := api.Oob{Kind: kind, Lba: 5, Stamp: 6}
		w.program(0, 0, pieceOf(o, data))
		switch kind {
		case api.Data, api.Trim, api.Head:
			wantFound(t, w.d, api.Found{Addr: 0, Oob: o, Data: data})
		default:
			wantFound(t, w.d)
		}
		wantWears(t, w.d, 0, 0)
	}
}

// Each page of four has each kind in each place, or what is none.
func TestPagesOfAllKinds(t *testing.T) {
	pieces := []piece{dataPiece(1, 2), trimPiece(3, 4), padPiece(), headPiece(api.Mark{Line: 0, Wear: 5, Stamp: 6}), blank()}
	g := api.Geometry{Chans: 1, Luns: 1, Blocks: 1, Pages: 32, Sectors: 4}
	w := twinOf(t, g)
	for n := range 5 * 5 * 5 * 5 {
		if n%32 == 0 {
			w.erase(0, 0)
		}
		w.program(0, 0, pieces[n%5], pieces[n/5%5], pieces[n/25%5], pieces[n/125])
		if n%32 == 31 || n == 624 {
			w.want()
		}
	}
}

// A pad says nothing, whatever its metadata and its sector are.
func TestPads(t *testing.T) {
	pads := []piece{
		padPiece(), pieceOf(api.Oob{Kind: 3, Lba: 5, Stamp: 6}, zeros()), pieceOf(api.Oob{Kind: 3}, bytesOf(3)),
		pieceOf(api.Oob{Kind: 3, Lba: maxLba, Stamp: maxStamp}, bytesOf(4)),
		headPiece(api.Mark{Line: 1, Wear: 5, Stamp: 6}, api.Oob{Kind: 3, Lba: 1, Stamp: 6}),
	}
	for _, p := range pads {
		w := twinOf(t, middle)
		w.program(0, 1, p, p, p)
		w.program(1, 1, p)
		wantFound(t, w.d)
		wantWears(t, w.d, 0, 0, 0)
		w.program(1, 1, p, dataPiece(3, 4), p)
		o := api.Oob{Kind: api.Data, Lba: 3, Stamp: 4}
		wantFound(t, w.d, api.Found{Addr: w.addr(1, 1, 1, 1), Oob: o, Data: bytesOf(7)})
		w.program(1, 1, trimPiece(5, 6), p, dataPiece(7, 8))
		w.want()
	}
}

// Numbers about the limits: those beyond them have a right checksum, but are none.
func TestNumbers(t *testing.T) {
	for _, lba := range []int{0, 1, 255, 256, 1 << 30, maxLba - 1, maxLba, maxLba + 1, maxLba + 2, 1<<32 - 1} {
		for _, stamp := range []int{0, 1, 1<<31 - 1, 1 << 31, 1<<32 - 1, 1 << 32, 1<<32 + 1, maxStamp - 1, maxStamp, maxStamp + 1, maxStamp + 1<<32, 1 << 51, 1 << 62, -1, -1 << 63} {
			for kind := 1; kind <= 4; kind++ {
				w := twinOf(t, example)
				o := api.Oob{Kind: kind, Lba: lba, Stamp: stamp}
				w.program(0, 1, pieceOf(o, bytesOf(9)))
				if kind == 3 || lba > maxLba || stamp < 0 || stamp > maxStamp {
					wantFound(t, w.d)
				} else {
					wantFound(t, w.d, api.Found{Addr: 2, Oob: o, Data: bytesOf(9)})
				}
				w.want()
			}
		}
	}
}

// Each bit of a sector, and of what stands beside it, turned alone: it says nothing, and what is about it says what it did.
func TestEachBitTurned(t *testing.T) {
	for _, p := range []piece{dataPiece(3, 4), trimPiece(maxLba, maxStamp), headPiece(api.Mark{Line: 1, Wear: 5, Stamp: 6})} {
		for bit := range 8 * (17 + 16) {
			w := twinOf(t, middle)
			w.program(2, 1, dataPiece(1, 2), p.turned(bit), trimPiece(5, 6))
			wantFound(t, w.d,
				api.Found{Addr: w.addr(2, 1, 0, 0), Oob: api.Oob{Kind: 1, Lba: 1, Stamp: 2}, Data: bytesOf(3)},
				api.Found{Addr: w.addr(2, 1, 0, 2), Oob: api.Oob{Kind: 2, Lba: 5, Stamp: 6}, Data: zeros()})
			w.want()
		}
	}
}

func TestManyBitsTurned(t *testing.T) {
	chance := walk(5)
	w := twinOf(t, api.Geometry{Chans: 1, Luns: 1, Blocks: 1, Pages: 32, Sectors: 4})
	for n := range 640 {
		if n%32 == 0 {
			w.erase(0, 0)
		}
		var pieces []piece
		for i := range 4 {
			var bits []int
			for range 2 + chance.next(9) {
				bits = append(bits, chance.next(8*33))
			}
			pieces = append(pieces, dataPiece(n+i, n*7).turned(bits...))
		}
		w.program(0, 0, pieces...)
		if n%32 == 31 {
			w.want()
		}
	}
	wantFound(t, w.d)
}

// The metadata of another sector say nothing here, nor does a sector's own say anything beside another one.
func TestMetadataOfAnother(t *testing.T) {
	w := twinOf(t, middle)
	a, b := dataPiece(3, 4), dataPiece(5, 6)
	w.program(0, 0, piece{a.data, b.beside}, piece{b.data, a.beside}, a)
	wantFound(t, w.d, api.Found{Addr: 2, Oob: api.Oob{Kind: 1, Lba: 3, Stamp: 4}, Data: bytesOf(7)})
	w.want()
}

// The device refuses sectors, and what stands beside them, of wrong numbers of bytes: there is nothing to be found.
func TestWrongNumbersOfBytes(t *testing.T) {
	w := used(t)
	p := dataPiece(3, 4)
	for _, many := range []int{0, 1, 15, 16, 17, 18, 33, 4000} {
		for _, beside := range []int{0, 1, 15, 16, 17, 18, 34, 4000} {
			if many == 16 && beside == 17 {
				continue
			}
			odd := piece{slices.Repeat(p.data, 250)[:many], slices.Repeat(p.beside, 250)[:beside]}
			data, besides := w.page([]piece{p, odd, p})
			if err := w.d.Program(1, 1, 0, data, besides); err != api.ErrArg {
				t.Errorf("Program of %d and %d bytes: %v", many, beside, err)
			}
			w.want()
		}
	}
	data, beside := w.page([]piece{p})
	for many := range 3 {
		if err := w.d.Program(1, 1, 0, data[:many], beside[:many]); err != api.ErrArg {
			t.Errorf("Program of %d sectors: %v", many, err)
		}
		w.want()
	}
}

func TestBeginningsOfPages(t *testing.T) {
	for many := range 5 {
		g := api.Geometry{Chans: 2, Luns: 1, Blocks: 2, Pages: 3, Sectors: 4}
		w := twinOf(t, g)
		w.program(1, 1, dataPiece(1, 1), dataPiece(2, 2), dataPiece(3, 3), dataPiece(4, 4))
		w.programAs(2+4*byte(many), 1, 1, dataPiece(5, 5), padPiece(), trimPiece(7, 7), headPiece(api.Mark{Line: 1, Wear: 8, Stamp: 8}))
		wantNone(t, w.d, api.ErrOff)
		w.d.Power()
		if found, _ := scan.Scan(w.d); len(found) != 4+[]int{0, 1, 1, 2, 3}[many] {
			t.Errorf("%d written: %v", many, found)
		}
		wantWears(t, w.d, 0, []int{0, 0, 0, 0, 8}[many])
		w.want()
		w.program(1, 1, dataPiece(9, 9))
		w.want()
	}
}

func TestFailedProgramming(t *testing.T) {
	w := twinOf(t, middle)
	w.programAs(1, 0, 0, dataPiece(1, 1), dataPiece(2, 2), headPiece(api.Mark{Line: 0, Wear: 8, Stamp: 8}))
	wantFound(t, w.d)
	wantWears(t, w.d, 0, 0, 0)
	wantGoods(t, w.d, 4, 4, 4)
	w.program(0, 0, dataPiece(3, 3))
	w.want()
	w.programAs(1, 0, 0, dataPiece(1, 1))
	w.want()
}

func TestErasedBlocks(t *testing.T) {
	for plan := range byte(4) {
		w := twinOf(t, middle)
		for _, unit := range []int{0, 1} {
			for _, block := range []int{1, 2} {
				for page := range middle.Pages {
					w.program(unit, block, headPiece(api.Mark{Line: block, Wear: 8, Stamp: page}), dataPiece(page, 2))
				}
			}
		}
		w.eraseAs(plan, 0, 1)
		if w.d.Off() {
			wantNone(t, w.d, api.ErrOff)
			w.d.Power()
		}
		w.want()
		if found, _ := scan.Scan(w.d); len(found) != 3*2*middle.Pages {
			t.Errorf("%d are left", len(found))
		}
		w.eraseAs(0, 0, 1)
		w.want()
		w.program(0, 1, trimPiece(6, 7), headPiece(api.Mark{Line: 1, Wear: 9, Stamp: 1}))
		w.program(0, 1, dataPiece(1, 1))
		wantWears(t, w.d, 0, 9, 8)
		w.want()
	}
}

func TestWrittenAgain(t *testing.T) {
	w := twinOf(t, example)
	for n := range 20 {
		w.program(0, 1, headPiece(api.Mark{Line: 1, Wear: n, Stamp: n}))
		wantWears(t, w.d, 0, n)
		w.program(0, 1, dataPiece(n, n))
		o := api.Oob{Kind: api.Data, Lba: n, Stamp: n}
		head := api.Oob{Kind: api.Head, Lba: 1, Stamp: n}
		wantFound(t, w.d,
			api.Found{Addr: 2, Oob: head, Data: marked(api.Mark{Line: 1, Wear: n, Stamp: n})},
			api.Found{Addr: 3, Oob: o, Data: bytesOf(2 * n)})
		w.erase(0, 1)
		wantFound(t, w.d)
		wantWears(t, w.d, 0, 0)
	}
}

// P17.3

func TestGoodsOfBadBlocks(t *testing.T) {
	for _, g := range append(row, least, example, middle) {
		units := g.Chans * g.Luns
		for bad := range units * g.Blocks {
			w := twinOf(t, g, bad)
			want := slices.Repeat([]int{units}, g.Blocks)
			want[bad%g.Blocks]--
			wantGoods(t, w.d, want...)
			w = twinOf(t, g)
			w.retire(bad/g.Blocks, bad%g.Blocks)
			wantGoods(t, w.d, want...)
			w.retire(bad/g.Blocks, bad%g.Blocks)
			wantGoods(t, w.d, want...)
			w.want()
		}
	}
}

// So many blocks of a line are retired: from none of them to all.
func TestGoodsOfOneLine(t *testing.T) {
	for _, line := range []int{0, 1, 40, 63} {
		w := twinOf(t, most)
		want := slices.Repeat([]int{8}, 64)
		for _, unit := range []int{3, 7, 0, 1, 6, 2, 5, 4} {
			wantGoods(t, w.d, want...)
			w.retire(unit, line)
			want[line]--
		}
		wantGoods(t, w.d, want...)
		w.want()
	}
}

func TestAllBlocksRetired(t *testing.T) {
	w := twinOf(t, middle, 0, 1, 2, 3, 4, 5, 6, 7, 8, 9, 10, 11)
	wantGoods(t, w.d, 0, 0, 0)
	wantFound(t, w.d)
	wantWears(t, w.d, 0, 0, 0)
}

// What is in a block that is retired is found as before, and its mark counts.
func TestRetiredBlocksAreFound(t *testing.T) {
	w := twinOf(t, middle)
	w.program(0, 1, headPiece(api.Mark{Line: 1, Wear: 6, Stamp: 2}), dataPiece(3, 4), padPiece())
	w.program(3, 2, trimPiece(5, 6))
	want := w.found()
	for _, unit := range []int{0, 1, 2, 3} {
		w.retire(unit, 1)
		w.retire(unit, 2)
		wantFound(t, w.d, want...)
		wantWears(t, w.d, 0, 6, 0)
		w.want()
	}
	wantGoods(t, w.d, 4, 0, 0)
}

// A failure retires nothing by itself.
func TestFailuresLeaveGoods(t *testing.T) {
	w := twinOf(t, middle)
	w.programAs(1, 0, 0)
	w.eraseAs(1, 1, 0)
	w.eraseAs(2, 2, 0)
	w.d.Power()
	wantGoods(t, w.d, 4, 4, 4)
}

func TestWearNumbers(t *testing.T) {
	for _, wear := range []int{0, 1, 2, 6, 7, 8, 13, 14, 255, 256, 1 << 16, 1 << 24, maxWear - 1, maxWear} {
		for _, stamp := range []int{0, 1, 1<<32 - 1, 1 << 32, maxStamp} {
			w := twinOf(t, middle)
			for _, line := range []int{2, 0} {
				w.program(0, line, headPiece(api.Mark{Line: line, Wear: wear, Stamp: stamp}))
			}
			wantWears(t, w.d, wear, 0, wear)
			w.want()
		}
	}
	// A wear beyond the limit is that of no mark, though all checksums are right.
	for _, wear := range []int{maxWear + 1, maxWear + 2, 1<<32 - 1} {
		w := twinOf(t, middle)
		w.program(0, 1, headPiece(api.Mark{Line: 1, Wear: wear, Stamp: 3}))
		wantWears(t, w.d, 0, 0, 0)
		w.want()
	}
}

// Each line's mark is in a place of its own: in each of them it counts.
func TestMarkInEachPlace(t *testing.T) {
	for _, g := range append(row, least, example, middle) {
		w := twinOf(t, g)
		for block := range g.Blocks {
			for unit := range w.units {
				for page := range g.Pages {
					for i := range g.Sectors {
						w.erase(unit, block)
						for range page {
							w.program(unit, block, dataPiece(1, 1))
						}
						others := slices.Repeat([]piece{dataPiece(2, 2)}, i)
						w.program(unit, block, append(others, headPiece(api.Mark{Line: block, Wear: 100 + page, Stamp: 1}))...)
						want := make([]int, g.Blocks)
						want[block] = 100 + page
						wantWears(t, w.d, want...)
					}
				}
				w.erase(unit, block)
			}
		}
	}
}

func TestMarksOfAllLines(t *testing.T) {
	w := twinOf(t, most)
	var want []int
	for line := range 64 {
		w.program(line%8, line, slices.Insert([]piece{padPiece(), padPiece(), padPiece()}, line%4, headPiece(api.Mark{Line: line, Wear: 1000 + line*line, Stamp: line}))...)
		want = append(want, 1000+line*line)
	}
	wantWears(t, w.d, want...)
	w.want()
}

// Of two marks of a line the one with the less address counts, whichever was written first and whatever they say.
func TestTwoMarks(t *testing.T) {
	type place struct{ unit, sector int }
	wears := [][2]int{{5, 9}, {9, 5}, {0, 5}, {5, 0}, {maxWear, 1}}
	for _, wear := range wears {
		for _, places := range [][2]place{{{0, 0}, {0, 1}}, {{0, 2}, {1, 0}}, {{2, 1}, {3, 0}}, {{1, 0}, {1, 2}}} {
			for _, stamps := range [][2]int{{1, 2}, {2, 1}, {3, 3}} {
				w := twinOf(t, middle)
				var pages [4][]piece
				for i, p := range places {
					for len(pages[p.unit]) < p.sector {
						pages[p.unit] = append(pages[p.unit], padPiece())
					}
					pages[p.unit] = append(pages[p.unit], headPiece(api.Mark{Line: 1, Wear: wear[i], Stamp: stamps[i]}))
				}
				for unit := 3; unit >= 0; unit-- {
					w.program(unit, 1, pages[unit]...)
				}
				wantWears(t, w.d, 0, wear[0], 0)
				w.want()
			}
		}
	}
}

// The address counts by pages ahead of units.
func TestTwoMarksInPages(t *testing.T) {
	w := twinOf(t, middle)
	w.program(0, 1)
	w.program(0, 1, headPiece(api.Mark{Line: 1, Wear: 5, Stamp: 1}))
	wantWears(t, w.d, 0, 5, 0)
	w.program(3, 1, padPiece(), padPiece(), headPiece(api.Mark{Line: 1, Wear: 7, Stamp: 1}))
	wantWears(t, w.d, 0, 7, 0)
	w.want()
}

// noMarks are sectors that are no mark of line 1, for one reason each.
func noMarks() []piece {
	m := api.Mark{Line: 1, Wear: 6, Stamp: 2}
	o := api.Oob{Kind: 4, Lba: 1, Stamp: 2}
	list := []piece{
		headPiece(api.Mark{Line: 0, Wear: 6, Stamp: 2}), headPiece(api.Mark{Line: 2, Wear: 6, Stamp: 2}), headPiece(api.Mark{Line: 63, Wear: 6, Stamp: 2}),
		headPiece(api.Mark{Line: 0, Wear: 6, Stamp: 2}, o), headPiece(api.Mark{Line: 2, Wear: 6, Stamp: 2}, o), headPiece(api.Mark{Line: 65, Wear: 6, Stamp: 2}, o),
		headPiece(m, api.Oob{Kind: 4, Lba: 0, Stamp: 2}), headPiece(m, api.Oob{Kind: 4, Lba: 2, Stamp: 2}), headPiece(m, api.Oob{Kind: 4, Lba: 257, Stamp: 2}),
		headPiece(m, api.Oob{Kind: 4, Lba: 1, Stamp: 1}), headPiece(m, api.Oob{Kind: 4, Lba: 1, Stamp: 3}), headPiece(m, api.Oob{Kind: 4, Lba: 1, Stamp: 2 + 1<<32}),
		headPiece(m, api.Oob{Kind: 4, Lba: 2, Stamp: 1}), headPiece(m, api.Oob{Kind: 4, Lba: 1}),
		headPiece(api.Mark{Line: 1, Wear: 6, Stamp: 2 + 1<<32}, o), headPiece(api.Mark{Line: 1, Wear: 6, Stamp: maxStamp + 1}),
		headPiece(api.Mark{Line: 1, Wear: 6, Stamp: maxStamp + 1}, o), headPiece(api.Mark{Line: 1, Wear: maxWear + 1, Stamp: 2}),
		pieceOf(o, zeros()), pieceOf(o, bytesOf(3)), pieceOf(o, bytes.Repeat([]byte{255}, 16)),
	}
	for _, kind := range append(wrongKinds(), api.Data, api.Trim, api.Pad) {
		list = append(list, headPiece(m, api.Oob{Kind: kind, Lba: 1, Stamp: 2}))
	}
	// The bytes of the mark are others, but for its wear, and the checksum is theirs.
	for at := range 16 {
		if at < 4 || at >= 8 {
			other := marked(m)
			other[at] ^= 1
			list = append(list, pieceOf(o, other))
		}
	}
	for letter := range 256 {
		if other := marked(m); letter != int(other[3]) {
			other[3] = byte(letter)
			list = append(list, pieceOf(o, other))
		}
	}
	for bit := range 8 * 33 {
		list = append(list, headPiece(m).turned(bit))
	}
	return list
}

// What is no mark counts for nothing, alone, and ahead of and behind one that is.
func TestNoMarks(t *testing.T) {
	for _, p := range noMarks() {
		w := twinOf(t, middle)
		w.program(0, 1, p)
		wantWears(t, w.d, 0, 0, 0)
		w.program(2, 1, p, headPiece(api.Mark{Line: 1, Wear: 8, Stamp: 9}), p)
		wantWears(t, w.d, 0, 8, 0)
		w.erase(0, 1)
		wantWears(t, w.d, 0, 8, 0)
		w.want()
	}
}

// A mark counts in its own line alone, and makes no line count of which there is none.
func TestMarkOfAnotherLine(t *testing.T) {
	for block := range 3 {
		for line := range 64 {
			w := twinOf(t, middle)
			w.program(0, block, headPiece(api.Mark{Line: line, Wear: 6, Stamp: 2}))
			want := make([]int, 3)
			if block == line {
				want[block] = 6
			}
			wantWears(t, w.d, want...)
			if found, _ := scan.Scan(w.d); len(found) != 1 {
				t.Errorf("a head isn't found: %v", found)
			}
		}
	}
}

// The device's own count of a block's wear is not what Wears tells.
func TestWearsAreTheMarks(t *testing.T) {
	w := twinOf(t, example)
	for range 5 {
		w.erase(0, 0)
	}
	wantWears(t, w.d, 0, 0)
	w.program(0, 0, headPiece(api.Mark{Line: 0, Wear: 2, Stamp: 2}))
	wantWears(t, w.d, 2, 0)
}

// P17.4

// chancePiece is of any kind, now and then spoilt.
func (c *walk) chancePiece(block int) piece {
	o := api.Oob{Kind: c.next(4) + 1, Lba: c.next(9), Stamp: c.next(99)}
	p := pieceOf(o, bytesOf(c.next(999)))
	if c.next(3) == 0 {
		p = headPiece(api.Mark{Line: max(0, block-c.next(2)), Wear: c.next(20), Stamp: c.next(3)})
	}
	if c.next(5) == 0 {
		p = p.turned(c.next(8 * 33))
	}
	if c.next(20) == 0 {
		p = blank()
	}
	return p
}

// chanceStep programs, erases or retires a block that may be.
func (w *twin) chanceStep(c *walk) {
	w.t.Helper()
	unit, block := c.next(w.units), c.next(w.g.Blocks)
	id := [2]int{unit, block}
	plan := byte(0)
	if c.next(6) == 0 {
		plan = byte(c.next(256))
	}
	switch {
	case c.next(150) == 0:
		w.retire(unit, block)
	case w.retired[id]:
	case w.next[id] < w.g.Pages && c.next(6) > 0:
		var pieces []piece
		for range w.g.Sectors {
			pieces = append(pieces, c.chancePiece(block))
		}
		w.programAs(plan, unit, block, pieces...)
	case c.next(3) == 0:
		w.eraseAs(plan, unit, block)
	}
	if w.d.Off() {
		wantNone(w.t, w.d, api.ErrOff)
		w.d.Power()
	}
}

func TestLongRuns(t *testing.T) {
	for seed, g := range append(row, least, example, middle, api.Geometry{Chans: 4, Luns: 2, Blocks: 5, Pages: 3, Sectors: 4}) {
		for round := range 6 {
			chance := walk(seed*100 + round)
			w := twinOf(t, g)
			for range 300 {
				w.chanceStep(&chance)
				w.want()
			}
		}
	}
}

// R3, R4

func TestResultsAreTheCallers(t *testing.T) {
	w := used(t)
	before := stateOf(w.d)
	for range 3 {
		found, _ := scan.Scan(w.d)
		goods, _ := scan.Goods(w.d)
		wears, _ := scan.Wears(w.d)
		found = found[:cap(found)]
		for i := range found {
			data := found[i].Data[:cap(found[i].Data)]
			for j := range data {
				data[j] ^= 255
			}
			found[i].Addr, found[i].Oob.Stamp = -7, -8
		}
		for _, list := range [][]int{goods[:cap(goods)], wears[:cap(wears)]} {
			for i := range list {
				list[i] = -9
			}
		}
		wantState(t, w.d, before)
		w.want()
	}
}

// No two sectors of an answer, or of two answers, share memory, even where their bytes are the same.
func TestSectorsShareNothing(t *testing.T) {
	w := twinOf(t, middle)
	p := dataPiece(3, 4)
	w.program(0, 0, p, p, p)
	w.program(1, 0, p, trimPiece(1, 1), trimPiece(1, 1))
	first, _ := scan.Scan(w.d)
	second, _ := scan.Scan(w.d)
	all := slices.Concat(first, second)
	if len(all) != 12 {
		t.Fatalf("%d sectors", len(all))
	}
	for i := range all {
		data := all[i].Data[:cap(all[i].Data)]
		for j := range data {
			data[j] = byte(i + 1)
		}
	}
	for i := range all {
		for _, b := range all[i].Data {
			if b != byte(i+1) {
				t.Fatalf("sector %d shares memory with another one", i)
			}
		}
	}
	w.want()
}

// What was answered stays what it was, whatever becomes of the device.
func TestResultsStay(t *testing.T) {
	w := used(t)
	found, _ := scan.Scan(w.d)
	goods, _ := scan.Goods(w.d)
	wears, _ := scan.Wears(w.d)
	want, wantGood, wantWear := w.found(), w.goods(), w.wears()
	w.erase(0, 0)
	w.program(0, 0, dataPiece(8, 8), headPiece(api.Mark{Line: 0, Wear: 99, Stamp: 99}))
	w.retire(0, 1)
	w.want()
	if !slices.EqualFunc(found, want, sameFound) || !slices.Equal(goods, wantGood) || !slices.Equal(wears, wantWear) {
		t.Error("what was answered has changed with the device")
	}
}

func TestTwoDevices(t *testing.T) {
	a, b := twinOf(t, example), twinOf(t, middle)
	for n := range 2 {
		a.program(0, n, headPiece(api.Mark{Line: n, Wear: 5 + n, Stamp: 1}))
		a.want()
		b.want()
		b.program(n, 2, dataPiece(n, 1), headPiece(api.Mark{Line: 2, Wear: 9, Stamp: n}))
		a.want()
		b.want()
	}
	a.retire(0, 1)
	a.erase(0, 0)
	b.want()
	a.want()
	b.eraseAs(2, 0, 2)
	a.want()
	wantNone(t, b.d, api.ErrOff)
	a.want()
}

func TestSameCallsSameAnswers(t *testing.T) {
	a, b := used(t), used(t)
	first, _ := scan.Scan(a.d)
	scan.Goods(a.d)
	scan.Wears(a.d)
	for range 5 {
		wantFound(t, a.d, first...)
		wantFound(t, b.d, first...)
		wantGoods(t, b.d, a.goods()...)
		wantWears(t, b.d, a.wears()...)
	}
}
