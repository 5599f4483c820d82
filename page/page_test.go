package page_test

import (
	"bytes"
	"encoding/binary"
	"hash/crc32"
	"math"
	"reflect"
	"slices"
	"testing"

	"strake/api"
	"strake/page"
)

// The chapters' limits.
const (
	maxLba   = 1<<31 - 1
	maxStamp = 1 << 50
	maxWear  = 1<<31 - 1
)

// far are numbers beyond all limits, and numbers that would be right if they were cut off.
func far() []int {
	return []int{math.MinInt, math.MinInt + 1, math.MinInt + 2, -1 << 62, -1 << 32, 2 - 1<<32, -1 << 31, -256, -255, -254, -4, -2, -1, 1 << 32, 1<<32 + 1, 1<<32 + 2, 1<<40 + 1, 1<<62 + 2, math.MaxInt - 1, math.MaxInt}
}

// wrongSectors are numbers of sectors that no page has.
func wrongSectors() []int { return append(far(), 0, 5, 6, 8, 255, 256, 257, 1<<31-1, 1<<31+2) }

// wrongKinds are those that no slot has, among them two that metadata may have.
func wrongKinds() []int { return append(far(), 0, api.Pad, api.Head, 5, 6, 255, 256, 257, 258) }

func wrongLbas() []int { return append(far(), maxLba+1, maxLba+2) }

func wrongStamps() []int {
	return []int{math.MinInt, math.MinInt + 1, -1 << 50, -1 << 32, -2, -1, maxStamp + 1, maxStamp + 1<<32, 1 << 51, 1 << 62, math.MaxInt}
}

// zeros are a new sector without anything.
func zeros() []byte { return make([]byte, 16) }

// bytesOf are a new sector, another one for each seed.
func bytesOf(seed int) []byte {
	b := zeros()
	for i := range b {
		b[i] = byte(seed*59 + i*i*73 + i*seed + 19)
	}
	return b
}

// packed are the metadata beside a sector as chapter 5 has them, for the tests alone.
func packed(o api.Oob, data []byte) []byte {
	b := []byte{byte(o.Kind)}
	for _, n := range []int{o.Lba, o.Stamp % (1 << 32), o.Stamp / (1 << 32)} {
		b = binary.LittleEndian.AppendUint32(b, uint32(n))
	}
	return binary.LittleEndian.AppendUint32(b, crc32.ChecksumIEEE(slices.Concat(b, data)))
}

// marked is a mark's sector as chapter 6 has it, for the tests alone.
func marked(m api.Mark) []byte {
	b := []byte{'H', 'L', byte(m.Line), byte('A' + m.Wear%7)}
	for _, n := range []int{m.Wear, m.Stamp % (1 << 32), m.Stamp / (1 << 32)} {
		b = binary.LittleEndian.AppendUint32(b, uint32(n))
	}
	return b
}

func dataSlot(lba, stamp int) api.Slot {
	return api.Slot{Kind: api.Data, Lba: lba, Stamp: stamp, Data: bytesOf(lba + stamp), From: -1}
}

func trimSlot(lba, stamp int) api.Slot {
	return api.Slot{Kind: api.Trim, Lba: lba, Stamp: stamp, From: -1}
}

// some are slots that a page may have, of both kinds, with numbers about the edges.
func some() []api.Slot {
	trimWithData := trimSlot(2, 9)
	trimWithData.Data = bytesOf(9)
	trimWithMany := trimSlot(maxLba, 1)
	trimWithMany.Data = make([]byte, 40)
	moved := dataSlot(7, 3)
	moved.From = 17
	blank := dataSlot(0, 0)
	blank.Data = zeros()
	full := dataSlot(maxLba, maxStamp)
	full.Data = bytes.Repeat([]byte{255}, 16)
	return []api.Slot{
		dataSlot(3, 4), trimSlot(3, 5), trimWithData, moved, blank, trimSlot(0, 0), full, trimSlot(maxLba, maxStamp),
		dataSlot(maxLba, 0), dataSlot(0, maxStamp), trimWithMany, dataSlot(1<<24, 1<<32+7), trimSlot(1<<16, 1<<32-1),
	}
}

// told is what is to be read of a slot: by the chapter's words, what its sector is.
func told(addr int, s api.Slot) api.Found {
	data := s.Data
	if s.Kind == api.Trim {
		data = zeros()
	}
	return api.Found{Addr: addr, Oob: api.Oob{Kind: s.Kind, Lba: s.Lba, Stamp: s.Stamp}, Data: data}
}

func toldAll(slots []api.Slot) []api.Found {
	var want []api.Found
	for i, s := range slots {
		want = append(want, told(i, s))
	}
	return want
}

// wanted is a page of some sectors that say something, and of pads behind them.
func wanted(sectors int, first []api.Found) ([][]byte, [][]byte) {
	var data, beside [][]byte
	for _, f := range first {
		data = append(data, f.Data)
		beside = append(beside, packed(f.Oob, f.Data))
	}
	for len(data) < sectors {
		data = append(data, zeros())
		beside = append(beside, packed(api.Oob{Kind: 3}, zeros()))
	}
	return data, beside
}

func samePages(a, b [][]byte) bool { return slices.EqualFunc(a, b, bytes.Equal) }

// wantPage holds a page that was made against those sectors, with pads behind them.
func wantPage(t *testing.T, data, beside [][]byte, err api.Errno, sectors int, first []api.Found) {
	t.Helper()
	wantData, wantBeside := wanted(sectors, first)
	if err != api.OK || !samePages(data, wantData) || !samePages(beside, wantBeside) {
		t.Errorf("a page of %d: %v, %v, %d, want %v, %v", sectors, data, beside, err, wantData, wantBeside)
	}
}

func wantBuild(t *testing.T, sectors int, slots ...api.Slot) {
	t.Helper()
	data, beside, err := page.Build(sectors, slots...)
	wantPage(t, data, beside, err, sectors, toldAll(slots))
}

func wantHead(t *testing.T, sectors int, m api.Mark) {
	t.Helper()
	data, beside, err := page.Head(sectors, m)
	wantPage(t, data, beside, err, sectors, []api.Found{toldMark(m)})
}

// toldMark is what is to be read of the page of a mark.
func toldMark(m api.Mark) api.Found {
	return api.Found{Oob: api.Oob{Kind: 4, Lba: m.Line, Stamp: m.Stamp}, Data: marked(m)}
}

func wantNoBuild(t *testing.T, sectors int, slots ...api.Slot) {
	t.Helper()
	if data, beside, err := page.Build(sectors, slots...); len(data) != 0 || len(beside) != 0 || err != api.ErrArg {
		t.Errorf("Build(%d, %v): %v, %v, %d, want nothing, %d", sectors, slots, data, beside, err, api.ErrArg)
	}
}

func wantNoHead(t *testing.T, sectors int, m api.Mark) {
	t.Helper()
	if data, beside, err := page.Head(sectors, m); len(data) != 0 || len(beside) != 0 || err != api.ErrArg {
		t.Errorf("Head(%d, %v): %v, %v, %d, want nothing, %d", sectors, m, data, beside, err, api.ErrArg)
	}
}

func sameFound(a, b api.Found) bool {
	return a.Addr == b.Addr && a.Oob == b.Oob && bytes.Equal(a.Data, b.Data)
}

func wantRead(t *testing.T, data, beside [][]byte, want ...api.Found) {
	t.Helper()
	if got := page.Read(data, beside); !slices.EqualFunc(got, want, sameFound) {
		t.Errorf("Read(%v, %v): %v, want %v", data, beside, got, want)
	}
}

// built is a page that must be built.
func built(t *testing.T, sectors int, slots ...api.Slot) ([][]byte, [][]byte) {
	t.Helper()
	data, beside, err := page.Build(sectors, slots...)
	if err != api.OK || len(data) != sectors || len(beside) != sectors {
		t.Fatalf("Build(%d, %v): %v, %v, %d", sectors, slots, data, beside, err)
	}
	return data, beside
}

func cloned(list [][]byte) [][]byte {
	var all [][]byte
	for _, b := range list {
		all = append(all, slices.Clone(b))
	}
	return all
}

// rows shows all rows of so many of some slots.
func rows(all []api.Slot, many int, show func(row []api.Slot)) {
	var walk func(row []api.Slot)
	walk = func(row []api.Slot) {
		if len(row) == many {
			show(slices.Clone(row))
			return
		}
		for _, s := range all {
			walk(append(row, s))
		}
	}
	walk(nil)
}

// P15.1

func TestBuildKnown(t *testing.T) {
	s := api.Slot{Kind: 1, Lba: 258, Stamp: 1, Data: []byte("0123456789abcdef"), From: -1}
	data, beside := built(t, 2, s)
	if string(data[0]) != "0123456789abcdef" || !bytes.Equal(data[1], zeros()) {
		t.Errorf("the sectors are %v", data)
	}
	if !bytes.Equal(beside[0][:13], []byte{1, 2, 1, 0, 0, 1, 0, 0, 0, 0, 0, 0, 0}) {
		t.Errorf("beside the slot are %v", beside[0])
	}
	if !bytes.Equal(beside[1][:13], []byte{3, 0, 0, 0, 0, 0, 0, 0, 0, 0, 0, 0, 0}) {
		t.Errorf("beside the pad are %v", beside[1])
	}
	wantBuild(t, 2, s)
	wantNoBuild(t, 2)
}

func TestBuildOfEachSlot(t *testing.T) {
	for sectors := 1; sectors <= 4; sectors++ {
		for _, s := range some() {
			wantBuild(t, sectors, s)
		}
	}
}

func TestBuildOfRows(t *testing.T) {
	for sectors := 1; sectors <= 4; sectors++ {
		for many := 1; many <= min(sectors, 3); many++ {
			rows(some(), many, func(row []api.Slot) { wantBuild(t, sectors, row...) })
		}
	}
	rows(some()[:6], 4, func(row []api.Slot) { wantBuild(t, 4, row...) })
}

// All slots of a page may be the same: which sectors they are counts for nothing.
func TestBuildOfSameSlots(t *testing.T) {
	for _, s := range some() {
		wantBuild(t, 4, s, s, s, s)
		wantBuild(t, 3, s, s)
	}
}

func TestBuildOfWrongSectors(t *testing.T) {
	for _, sectors := range wrongSectors() {
		wantNoBuild(t, sectors)
		for many := 1; many <= 6; many++ {
			wantNoBuild(t, sectors, slices.Repeat([]api.Slot{dataSlot(3, 4)}, many)...)
		}
		wantNoBuild(t, sectors, trimSlot(3, 4))
		wantNoBuild(t, sectors, api.Slot{})
	}
}

func TestBuildOfWrongManySlots(t *testing.T) {
	for sectors := 1; sectors <= 4; sectors++ {
		wantNoBuild(t, sectors)
		wantNoBuild(t, sectors, []api.Slot{}...)
		for _, s := range []api.Slot{dataSlot(3, 4), trimSlot(3, 4)} {
			wantBuild(t, sectors, slices.Repeat([]api.Slot{s}, sectors)...)
			for _, many := range []int{sectors + 1, sectors + 2, 2*sectors + 1, 256 + sectors, 70000} {
				data, beside, err := page.Build(sectors, slices.Repeat([]api.Slot{s}, many)...)
				if len(data) != 0 || len(beside) != 0 || err != api.ErrArg {
					t.Errorf("Build(%d) of %d slots: %d and %d sectors, %d", sectors, many, len(data), len(beside), err)
				}
			}
		}
	}
}

// wantWrong holds that no page is built with such a slot, wherever it stands.
func wantWrong(t *testing.T, wrong api.Slot) {
	t.Helper()
	for sectors := 1; sectors <= 4; sectors++ {
		for many := 1; many <= sectors; many++ {
			for at := range many {
				slots := slices.Repeat([]api.Slot{dataSlot(3, 4)}, many)
				slots[at] = wrong
				wantNoBuild(t, sectors, slots...)
			}
		}
	}
}

func TestBuildOfWrongKinds(t *testing.T) {
	for _, kind := range wrongKinds() {
		for _, data := range [][]byte{nil, zeros(), bytesOf(3)} {
			wantWrong(t, api.Slot{Kind: kind, Data: data})
			wantWrong(t, api.Slot{Kind: kind, Lba: 3, Stamp: 4, Data: data, From: -1})
		}
	}
	wantWrong(t, api.Slot{})
	// What a head or a pad would be is no slot either.
	wantWrong(t, api.Slot{Kind: api.Head, Lba: 3, Stamp: 1, Data: marked(api.Mark{Line: 3, Stamp: 1})})
	wantWrong(t, api.Slot{Kind: api.Pad, Data: zeros(), From: -1})
}

func TestBuildAtNumbersEnds(t *testing.T) {
	for _, lba := range []int{0, 1, maxLba - 1, maxLba} {
		for _, stamp := range []int{0, 1, maxStamp - 1, maxStamp} {
			wantBuild(t, 1, dataSlot(lba, stamp))
			wantBuild(t, 4, trimSlot(lba, stamp), dataSlot(lba, stamp))
		}
	}
}

func TestBuildOfWrongNumbers(t *testing.T) {
	for _, lba := range wrongLbas() {
		for _, stamp := range []int{0, 4, maxStamp} {
			wantWrong(t, api.Slot{Kind: 1, Lba: lba, Stamp: stamp, Data: bytesOf(1), From: -1})
			wantWrong(t, trimSlot(lba, stamp))
		}
	}
	for _, stamp := range wrongStamps() {
		for _, lba := range []int{0, 3, maxLba, -1} {
			wantWrong(t, api.Slot{Kind: 1, Lba: lba, Stamp: stamp, Data: bytesOf(1), From: -1})
			wantWrong(t, trimSlot(lba, stamp))
		}
	}
}

func TestBuildOfLengths(t *testing.T) {
	for _, n := range []int{0, 1, 15, 16, 17, 31, 32, 48, 256, 272, 70000} {
		s := dataSlot(3, 4)
		s.Data = bytes.Repeat([]byte{7}, n)
		if n == 16 {
			wantBuild(t, 1, s)
		} else {
			wantWrong(t, s)
		}
		// A trim's own bytes count for nothing, however many they are.
		s.Kind = api.Trim
		wantBuild(t, 1, s)
		wantBuild(t, 4, s, dataSlot(3, 5), s)
	}
	empty := dataSlot(3, 4)
	empty.Data = nil
	wantWrong(t, empty)
	empty.Data = make([]byte, 0, 16)
	wantWrong(t, empty)
}

// From counts for nothing.
func TestBuildOfMovedSlots(t *testing.T) {
	for _, from := range append(far(), 0, 1, 17) {
		for _, s := range []api.Slot{dataSlot(3, 4), trimSlot(3, 4)} {
			s.From = from
			wantBuild(t, 2, s)
		}
	}
}

func TestPads(t *testing.T) {
	for sectors := 1; sectors <= 4; sectors++ {
		for many := 1; many <= sectors; many++ {
			data, beside := built(t, sectors, slices.Repeat([]api.Slot{dataSlot(3, 4)}, many)...)
			for i := many; i < sectors; i++ {
				wantPad(t, data[i], beside[i])
			}
		}
		data, beside, _ := page.Head(sectors, api.Mark{Line: 3, Wear: 9, Stamp: 1})
		for i := 1; i < sectors; i++ {
			wantPad(t, data[i], beside[i])
		}
	}
}

func wantPad(t *testing.T, data, beside []byte) {
	t.Helper()
	head := make([]byte, 13)
	head[0] = 3
	sum := binary.LittleEndian.AppendUint32(nil, crc32.ChecksumIEEE(append(slices.Clone(head), zeros()...)))
	if !bytes.Equal(data, zeros()) || !bytes.Equal(beside, append(head, sum...)) {
		t.Errorf("a pad is %v, %v", data, beside)
	}
}

// P15.2

func TestHeadKnown(t *testing.T) {
	data, beside, err := page.Head(1, api.Mark{Line: 3, Wear: 9, Stamp: 1})
	if err != api.OK || len(data) != 1 || len(beside) != 1 {
		t.Fatalf("%v, %v, %d", data, beside, err)
	}
	if !bytes.Equal(data[0], []byte{72, 76, 3, 67, 9, 0, 0, 0, 1, 0, 0, 0, 0, 0, 0, 0}) {
		t.Errorf("the sector is %v", data[0])
	}
	if !bytes.Equal(beside[0][:13], []byte{4, 3, 0, 0, 0, 1, 0, 0, 0, 0, 0, 0, 0}) {
		t.Errorf("beside it are %v", beside[0])
	}
}

func TestHead(t *testing.T) {
	for sectors := 1; sectors <= 4; sectors++ {
		for _, line := range []int{0, 1, 3, 62, 63} {
			for _, wear := range []int{0, 1, 6, 7, 9, maxWear - 1, maxWear} {
				for _, stamp := range []int{0, 1, 1<<32 - 1, 1 << 32, maxStamp - 1, maxStamp} {
					wantHead(t, sectors, api.Mark{Line: line, Wear: wear, Stamp: stamp})
				}
			}
		}
	}
}

func TestHeadOfWrongSectors(t *testing.T) {
	for _, sectors := range wrongSectors() {
		wantNoHead(t, sectors, api.Mark{})
		wantNoHead(t, sectors, api.Mark{Line: 3, Wear: 9, Stamp: 1})
		wantNoHead(t, sectors, api.Mark{Line: 64})
	}
}

func TestHeadOfWrongMarks(t *testing.T) {
	for sectors := 1; sectors <= 4; sectors++ {
		for _, line := range append(far(), 64, 65, 255, 256, 259, maxLba) {
			wantNoHead(t, sectors, api.Mark{Line: line, Wear: 9, Stamp: 1})
			wantNoHead(t, sectors, api.Mark{Line: line})
		}
		for _, wear := range append(far(), maxWear+1, maxWear+2) {
			wantNoHead(t, sectors, api.Mark{Line: 3, Wear: wear, Stamp: 1})
			wantNoHead(t, sectors, api.Mark{Wear: wear})
		}
		for _, stamp := range wrongStamps() {
			wantNoHead(t, sectors, api.Mark{Line: 3, Wear: 9, Stamp: stamp})
			wantNoHead(t, sectors, api.Mark{Line: 64, Wear: -1, Stamp: stamp})
		}
	}
}

// P15.3

func TestReadOfNothing(t *testing.T) {
	data, beside := built(t, 2, dataSlot(3, 4))
	for _, none := range [][][]byte{nil, {}} {
		wantRead(t, none, none)
		wantRead(t, data, none)
		wantRead(t, none, beside)
	}
	wantRead(t, [][]byte{nil}, [][]byte{nil})
	wantRead(t, [][]byte{{}}, [][]byte{{}})
	wantRead(t, [][]byte{nil, nil, nil, nil, nil}, [][]byte{nil, nil, nil})
}

func TestReadOfWrongLengths(t *testing.T) {
	s := dataSlot(3, 4)
	for n := range 40 {
		data, beside := built(t, 3, dataSlot(1, 2), s, trimSlot(5, 6))
		data[1] = append(slices.Clone(s.Data), make([]byte, 24)...)[:n]
		want := []api.Found{told(0, dataSlot(1, 2)), told(1, s), told(2, trimSlot(5, 6))}
		if n != 16 {
			want = slices.Delete(want, 1, 2)
		}
		wantRead(t, data, beside, want...)
	}
	for n := range 40 {
		data, beside := built(t, 3, dataSlot(1, 2), s, trimSlot(5, 6))
		beside[1] = append(beside[1], make([]byte, 24)...)[:n]
		want := []api.Found{told(0, dataSlot(1, 2)), told(1, s), told(2, trimSlot(5, 6))}
		if n != 17 {
			want = slices.Delete(want, 1, 2)
		}
		wantRead(t, data, beside, want...)
	}
}

// A sector may be of any kind, and there may be any number of them: Read isn't bound to what Build makes.
func TestReadOfEachKind(t *testing.T) {
	for kind := range 256 {
		for _, o := range []api.Oob{{Kind: kind}, {Kind: kind, Lba: 3, Stamp: 4}, {Kind: kind, Lba: maxLba, Stamp: maxStamp}} {
			for _, data := range [][]byte{zeros(), bytesOf(kind)} {
				var want []api.Found
				if kind == api.Data || kind == api.Trim || kind == api.Head {
					want = []api.Found{{Oob: o, Data: data}}
				}
				wantRead(t, [][]byte{data}, [][]byte{packed(o, data)}, want...)
			}
		}
	}
}

func TestReadOfWrongNumbers(t *testing.T) {
	for _, o := range []api.Oob{{Kind: 1, Lba: 1 << 31}, {Kind: 2, Lba: 1<<32 - 1}, {Kind: 1, Stamp: maxStamp + 1}, {Kind: 4, Stamp: 1 << 51}, {Kind: 2, Stamp: math.MaxInt}} {
		wantRead(t, [][]byte{zeros()}, [][]byte{packed(o, zeros())})
	}
}

func TestReadOfWrongSums(t *testing.T) {
	a, b := dataSlot(3, 4), dataSlot(5, 6)
	data, beside := built(t, 2, a, b)
	wantRead(t, data, [][]byte{beside[1], beside[0]})
	wantRead(t, data, [][]byte{beside[1], beside[1]}, told(1, b))
	wantRead(t, data, [][]byte{beside[0], beside[0]}, told(0, a))
	wantRead(t, [][]byte{data[1], data[1]}, beside, told(1, b))
	wantRead(t, [][]byte{zeros(), zeros()}, beside)
	wantRead(t, data, [][]byte{make([]byte, 17), make([]byte, 17)})
	wantRead(t, data, [][]byte{bytes.Repeat([]byte{255}, 17), beside[1]}, told(1, b))
}

func TestReadOfPads(t *testing.T) {
	var data, beside [][]byte
	for _, o := range []api.Oob{{Kind: 3}, {Kind: 3, Lba: 3, Stamp: 4}, {Kind: 3, Lba: maxLba, Stamp: maxStamp}, {Kind: 3}} {
		data = append(data, bytesOf(o.Lba))
		beside = append(beside, packed(o, bytesOf(o.Lba)))
	}
	wantRead(t, data, beside)
	first, besides := built(t, 4, dataSlot(3, 4))
	wantRead(t, first[1:], besides[1:])
	wantRead(t, slices.Concat(data, first), slices.Concat(beside, besides), told(4, dataSlot(3, 4)))
}

func TestReadOfHeads(t *testing.T) {
	for sectors := 1; sectors <= 4; sectors++ {
		for _, m := range []api.Mark{{}, {Line: 3, Wear: 9, Stamp: 1}, {Line: 63, Wear: maxWear, Stamp: maxStamp}} {
			data, beside, err := page.Head(sectors, m)
			if err != api.OK {
				t.Fatalf("Head(%d, %v): %d", sectors, m, err)
			}
			wantRead(t, data, beside, toldMark(m))
		}
	}
	// What a head's bytes say is no affair of Read's.
	o := api.Oob{Kind: 4, Lba: maxLba, Stamp: 9}
	wantRead(t, [][]byte{bytesOf(1)}, [][]byte{packed(o, bytesOf(1))}, api.Found{Oob: o, Data: bytesOf(1)})
}

func TestReadOfUnequalMany(t *testing.T) {
	slots := some()[:4]
	data, beside := built(t, 4, slots...)
	for a := range 5 {
		for b := range 5 {
			wantRead(t, data[:a], beside[:b], toldAll(slots[:min(a, b)])...)
		}
	}
}

func TestReadOfGaps(t *testing.T) {
	slots := some()[:4]
	for gaps := range 1 << 10 {
		var data, beside [][]byte
		var want []api.Found
		for i := range 10 {
			s := slots[i%4]
			d, b := built(t, 1, s)
			if gaps>>i&1 == 0 {
				want = append(want, told(i, s))
			} else {
				b = gap(i, d[0])
			}
			data, beside = append(data, d[0]), append(beside, b[0])
		}
		wantRead(t, data, beside, want...)
	}
}

// gap are metadata by which nothing is told, another way for each number.
func gap(i int, data []byte) [][]byte {
	wrong := packed(api.Oob{Kind: 1, Lba: i, Stamp: i}, data)
	wrong[13+i%4] ^= 1
	return [][][]byte{{packed(api.Oob{Kind: 3}, data)}, {nil}, {wrong}}[i%3]
}

func TestReadOfMany(t *testing.T) {
	const many = 3000
	var data, beside [][]byte
	var want []api.Found
	for i := range many {
		s := dataSlot(i, many-i)
		d, b := built(t, 1, s)
		if i%7 == 2 {
			b[0][i%17] ^= 64
		} else {
			want = append(want, told(i, s))
		}
		data, beside = append(data, d[0]), append(beside, b[0])
	}
	wantRead(t, data, beside, want...)
}

// P15.4

func TestThereAndBack(t *testing.T) {
	for sectors := 1; sectors <= 4; sectors++ {
		for many := 1; many <= min(sectors, 3); many++ {
			rows(some(), many, func(row []api.Slot) {
				data, beside := built(t, sectors, row...)
				wantRead(t, data, beside, toldAll(row)...)
			})
		}
	}
	rows(some()[:6], 4, func(row []api.Slot) {
		data, beside := built(t, 4, row...)
		wantRead(t, data, beside, toldAll(row)...)
	})
}

// pages are pages of all sizes, full ones and others, by their slots.
func pages() (list []struct {
	sectors int
	slots   []api.Slot
}) {
	all := some()
	for sectors := 1; sectors <= 4; sectors++ {
		for many := 1; many <= sectors; many++ {
			for at := 0; at+many <= len(all); at += 3 {
				list = append(list, struct {
					sectors int
					slots   []api.Slot
				}{sectors, all[at : at+many]})
			}
		}
	}
	return list
}

// without is what is told of slots when the sector at i tells nothing.
func without(slots []api.Slot, i int) []api.Found {
	return slices.DeleteFunc(toldAll(slots), func(f api.Found) bool { return f.Addr == i })
}

// Each bit of each sector, and of what stands beside it, turned alone: that sector isn't told, all others are.
func TestEachBitTurned(t *testing.T) {
	for _, p := range pages() {
		data, beside := built(t, p.sectors, p.slots...)
		for i := range p.sectors {
			for _, part := range [][]byte{data[i], beside[i]} {
				for bit := range 8 * len(part) {
					part[bit/8] ^= 1 << (bit % 8)
					wantRead(t, data, beside, without(p.slots, i)...)
					part[bit/8] ^= 1 << (bit % 8)
				}
			}
		}
		wantRead(t, data, beside, toldAll(p.slots)...)
	}
}

// One sector, or what stands beside it, becomes anything at all: all others are told.
func TestOneChangedWholly(t *testing.T) {
	others := [][]byte{nil, {}, {1}, zeros(), bytesOf(8), bytes.Repeat([]byte{255}, 16), make([]byte, 17), bytes.Repeat([]byte{1}, 17), make([]byte, 4000)}
	for _, p := range pages() {
		for i := range p.sectors {
			for _, other := range others {
				data, beside := built(t, p.sectors, p.slots...)
				if !bytes.Equal(data[i], other) {
					wantRead(t, replaced(data, i, other), beside, without(p.slots, i)...)
				}
				wantRead(t, data, replaced(beside, i, other), without(p.slots, i)...)
				wantRead(t, replaced(data, i, other), replaced(beside, i, other), without(p.slots, i)...)
			}
		}
	}
}

func replaced(list [][]byte, i int, b []byte) [][]byte {
	list = slices.Clone(list)
	list[i] = b
	return list
}

// A sector that becomes another valid one is told as that one, and all others as they were.
func TestOneBecomesAnother(t *testing.T) {
	s := dataSlot(11, 12)
	d, b := built(t, 1, s)
	for _, p := range pages() {
		for i := range p.sectors {
			data, beside := built(t, p.sectors, p.slots...)
			want := append(without(p.slots, i), told(i, s))
			slices.SortFunc(want, func(a, b api.Found) int { return a.Addr - b.Addr })
			wantRead(t, replaced(data, i, d[0]), replaced(beside, i, b[0]), want...)
		}
	}
}

// R3

// wantApart holds that no two of some bytes share memory, within their length or behind it.
func wantApart(t *testing.T, all [][]byte) {
	t.Helper()
	for i := range all {
		all[i] = all[i][:cap(all[i])]
	}
	before := cloned(all)
	for i := range all {
		for j := range all[i] {
			all[i][j] ^= 255
		}
		for k := range all {
			if k != i && !bytes.Equal(all[k], before[k]) {
				t.Fatalf("bytes %d and %d share memory", i, k)
			}
		}
		copy(all[i], before[i])
	}
}

func TestPagesShareNothing(t *testing.T) {
	for _, p := range pages() {
		data, beside := built(t, p.sectors, p.slots...)
		again, besides := built(t, p.sectors, p.slots...)
		all := slices.Concat(data, beside, again, besides)
		for _, s := range p.slots {
			all = append(all, s.Data)
		}
		wantApart(t, all)
	}
	s := dataSlot(3, 4)
	data, beside := built(t, 4, s, s, trimSlot(3, 5))
	wantApart(t, append(slices.Concat(data, beside), s.Data))
}

func TestHeadsShareNothing(t *testing.T) {
	m := api.Mark{Line: 3, Wear: 9, Stamp: 1}
	for sectors := 1; sectors <= 4; sectors++ {
		data, beside, _ := page.Head(sectors, m)
		again, besides, _ := page.Head(sectors, m)
		wantApart(t, slices.Concat(data, beside, again, besides))
		wantHead(t, sectors, m)
	}
}

func TestReadSharesNothing(t *testing.T) {
	s := dataSlot(3, 4)
	data, beside := built(t, 4, s, s, trimSlot(3, 5))
	data[1], beside[1] = data[0], beside[0]
	all := [][]byte{data[0], data[2], data[3], beside[0], beside[2], beside[3]}
	for range 2 {
		for _, f := range page.Read(data, beside) {
			all = append(all, f.Data)
		}
	}
	if len(all) != 12 {
		t.Fatalf("%d parts", len(all))
	}
	wantApart(t, all)
}

// Lists of an answer are lists of their own as well: what is laid behind one changes no other.
func TestListsShareNothing(t *testing.T) {
	for _, p := range pages() {
		data, beside := built(t, p.sectors, p.slots...)
		mine := cloned(slices.Concat(data, beside))
		for _, list := range [][][]byte{data, beside} {
			list = list[:cap(list)]
			for i := p.sectors; i < len(list); i++ {
				list[i] = []byte{1}
			}
		}
		if !samePages(slices.Concat(data, beside), mine) {
			t.Fatal("two lists of one answer share memory")
		}
	}
}

func TestArgumentsStay(t *testing.T) {
	for _, p := range pages() {
		// There is room behind the slots, and more bytes behind each slot's.
		slots := slices.Grow(slices.Clone(p.slots), 8)
		for i := range slots {
			slots[i].Data = append(slices.Clone(slots[i].Data), 1, 2, 3)[:len(slots[i].Data)]
		}
		before := slices.Clone(slots[:cap(slots)])
		var bytesBefore [][]byte
		for i := range slots {
			bytesBefore = append(bytesBefore, slices.Clone(slots[i].Data[:cap(slots[i].Data)]))
		}
		page.Build(p.sectors, slots...)
		page.Build(len(slots)-1, slots...)
		page.Build(5, slots...)
		if !reflect.DeepEqual(slots[:cap(slots)], before) {
			t.Fatal("Build has changed its slots, or what is behind them")
		}
		for i := range slots {
			if !bytes.Equal(slots[i].Data[:cap(slots[i].Data)], bytesBefore[i]) {
				t.Fatal("Build has changed the bytes of a slot, or what is behind them")
			}
		}
	}
}

func TestReadLeavesPages(t *testing.T) {
	for _, p := range pages() {
		data, beside := built(t, p.sectors, p.slots...)
		beside[0][16] ^= 1
		before, besideBefore := cloned(data), cloned(beside)
		found := page.Read(data, beside)
		for _, f := range found {
			for i := range f.Data {
				f.Data[i]++
			}
		}
		if !samePages(data, before) || !samePages(beside, besideBefore) {
			t.Fatal("Read has changed a page, or shares bytes with it")
		}
	}
}

// What was built stays what it was when a slot's bytes change afterwards, and what was found when the page does.
func TestResultsStay(t *testing.T) {
	s := dataSlot(3, 4)
	data, beside := built(t, 2, s)
	for i := range s.Data {
		s.Data[i]++
	}
	wantRead(t, data, beside, told(0, dataSlot(3, 4)))
	found := page.Read(data, beside)
	for i := range data[0] {
		data[0][i], beside[0][i] = 0, 0
	}
	if !slices.EqualFunc(found, []api.Found{told(0, dataSlot(3, 4))}, sameFound) {
		t.Errorf("what was found is %v now", found)
	}
}

// R4

func TestEachCallIsOnItsOwn(t *testing.T) {
	first, beside := built(t, 3, dataSlot(3, 4), trimSlot(5, 6))
	wantNoBuild(t, 2, dataSlot(1, -1))
	wantNoHead(t, 2, api.Mark{Line: 64})
	wantHead(t, 4, api.Mark{Line: 9})
	wantRead(t, nil, nil)
	again, besides := built(t, 3, dataSlot(3, 4), trimSlot(5, 6))
	if !samePages(first, again) || !samePages(beside, besides) {
		t.Error("the same slots have two pages")
	}
}
