package geom_test

import (
	"math"
	"testing"

	"strake/api"
	"strake/geom"
)

// example is the chapter's geometry.
func example() api.Geometry {
	return api.Geometry{Chans: 2, Luns: 1, Blocks: 3, Pages: 4, Sectors: 2}
}

func greatest() api.Geometry {
	return api.Geometry{Chans: api.MaxChans, Luns: api.MaxLuns, Blocks: api.MaxBlocks, Pages: api.MaxPages, Sectors: api.MaxSectors}
}

// parts are a geometry's numbers and the greatest that each may be.
func parts(g *api.Geometry) []struct {
	n    *int
	most int
} {
	return []struct {
		n    *int
		most int
	}{{&g.Chans, 4}, {&g.Luns, 2}, {&g.Blocks, 64}, {&g.Pages, 32}, {&g.Sectors, 4}}
}

// valid are geometries with all numbers of channels, LUNs and sectors, and some of blocks and pages.
func valid() []api.Geometry {
	l := []api.Geometry{greatest()}
	for chans := 1; chans <= 4; chans++ {
		for luns := 1; luns <= 2; luns++ {
			for sectors := 1; sectors <= 4; sectors++ {
				for _, many := range [][2]int{{1, 1}, {1, 32}, {64, 1}, {3, 4}, {7, 5}} {
					l = append(l, api.Geometry{Chans: chans, Luns: luns, Blocks: many[0], Pages: many[1], Sectors: sectors})
				}
			}
		}
	}
	return l
}

// wrong are geometries of which one number is out of its bounds, and the zero one.
func wrong() []api.Geometry {
	l := []api.Geometry{{}}
	for _, from := range []api.Geometry{example(), greatest(), {Chans: 1, Luns: 1, Blocks: 1, Pages: 1, Sectors: 1}} {
		for i, part := range parts(&from) {
			for _, n := range []int{0, -1, part.most + 1, math.MinInt, math.MaxInt} {
				g := from
				*parts(&g)[i].n = n
				l = append(l, g)
			}
		}
	}
	// Two negative numbers have a positive product.
	return append(l, api.Geometry{Chans: -2, Luns: -1, Blocks: 3, Pages: 4, Sectors: 2}, api.Geometry{Chans: 2, Luns: 1, Blocks: -3, Pages: -4, Sectors: 2})
}

func wantOf(t *testing.T, g api.Geometry, addr int, p api.Place, err api.Errno) {
	t.Helper()
	if got, gotErr := geom.Of(g, addr); got != p || gotErr != err {
		t.Errorf("Of(%v, %d): %v, %d, want %v, %d", g, addr, got, gotErr, p, err)
	}
}

func wantNumber(t *testing.T, g api.Geometry, p api.Place, addr int, err api.Errno) {
	t.Helper()
	if got, gotErr := geom.Number(g, p); got != addr || gotErr != err {
		t.Errorf("Number(%v, %v): %d, %d, want %d, %d", g, p, got, gotErr, addr, err)
	}
}

func wantChan(t *testing.T, g api.Geometry, unit, channel int, err api.Errno) {
	t.Helper()
	if got, gotErr := geom.Chan(g, unit); got != channel || gotErr != err {
		t.Errorf("Chan(%v, %d): %d, %d, want %d, %d", g, unit, got, gotErr, channel, err)
	}
}

func wantCounts(t *testing.T, g api.Geometry, right bool, units, line, all int) {
	t.Helper()
	if got := geom.Right(g); got != right {
		t.Errorf("Right(%v): %t", g, got)
	}
	if got := geom.Units(g); got != units {
		t.Errorf("Units(%v): %d, want %d", g, got, units)
	}
	if got := geom.Line(g); got != line {
		t.Errorf("Line(%v): %d, want %d", g, got, line)
	}
	if got := geom.All(g); got != all {
		t.Errorf("All(%v): %d, want %d", g, got, all)
	}
}

// The chapter's examples.
func TestExamples(t *testing.T) {
	g := example()
	wantCounts(t, g, true, 2, 16, 48)
	wantOf(t, g, 5, api.Place{Page: 1, Sector: 1}, api.OK)
	wantNumber(t, g, api.Place{Unit: 1, Block: 2}, 34, api.OK)
	wantOf(t, g, 48, api.Place{}, api.ErrRange)
}

// P3.1: every number at its least and at its greatest, and all in between.
func TestRightWithinBounds(t *testing.T) {
	for _, from := range []api.Geometry{example(), greatest()} {
		for i, part := range parts(&from) {
			for n := 1; n <= part.most; n++ {
				g := from
				*parts(&g)[i].n = n
				units := g.Chans * g.Luns
				line := units * g.Pages * g.Sectors
				wantCounts(t, g, true, units, line, line*g.Blocks)
			}
		}
	}
	wantCounts(t, greatest(), true, 8, 1024, 65536)
	wantCounts(t, api.Geometry{Chans: 1, Luns: 1, Blocks: 1, Pages: 1, Sectors: 1}, true, 1, 1, 1)
}

// P3.1: numbers of 0, negative ones, one beyond the greatest.
func TestWrongGeometriesCountNothing(t *testing.T) {
	for _, g := range wrong() {
		wantCounts(t, g, false, 0, 0, 0)
	}
}

// P3.2 and P0: ErrArg is told ahead of ErrRange.
func TestWrongGeometriesAreErrArg(t *testing.T) {
	for _, g := range wrong() {
		for _, n := range []int{0, 1, -1, 48, math.MinInt, math.MaxInt} {
			wantOf(t, g, n, api.Place{}, api.ErrArg)
			wantChan(t, g, n, 0, api.ErrArg)
			wantNumber(t, g, api.Place{Unit: n}, 0, api.ErrArg)
			wantNumber(t, g, api.Place{Unit: n, Block: n, Page: n, Sector: n}, 0, api.ErrArg)
		}
	}
}

// P3.2: the places in the order that the chapter words: by Block, then by Page, then by Unit, then by Sector.
func TestPlacesInOrder(t *testing.T) {
	for _, g := range valid() {
		addr := 0
		for block := range g.Blocks {
			for page := range g.Pages {
				for unit := range g.Chans * g.Luns {
					for sector := range g.Sectors {
						p := api.Place{Unit: unit, Block: block, Page: page, Sector: sector}
						wantOf(t, g, addr, p, api.OK)
						wantNumber(t, g, p, addr, api.OK)
						addr++
					}
				}
			}
		}
		wantOf(t, g, addr, api.Place{}, api.ErrRange)
		if addr != geom.All(g) {
			t.Errorf("All(%v): %d, want %d", g, geom.All(g), addr)
		}
	}
}

// P3.2: addresses that no place has.
func TestAddressesOutOfRange(t *testing.T) {
	for _, g := range valid() {
		all := geom.All(g)
		for _, addr := range []int{-1, -2, -all, math.MinInt, all, all + 1, 2 * all, math.MaxInt} {
			wantOf(t, g, addr, api.Place{}, api.ErrRange)
		}
	}
}

// P3.2: places that there aren't, each by one number alone, of which most have the number of another place.
func TestPlacesOutOfRange(t *testing.T) {
	for _, g := range valid() {
		for _, from := range []api.Place{{}, {Unit: g.Chans*g.Luns - 1, Block: g.Blocks - 1, Page: g.Pages - 1, Sector: g.Sectors - 1}} {
			for i, most := range []int{g.Chans * g.Luns, g.Blocks, g.Pages, g.Sectors} {
				for _, n := range []int{-1, -2, -most, most, most + 1, math.MinInt, math.MaxInt} {
					p := from
					*[]*int{&p.Unit, &p.Block, &p.Page, &p.Sector}[i] = n
					wantNumber(t, g, p, 0, api.ErrRange)
				}
			}
		}
	}
}

// P3.2: places whose numbers outweigh each other, or wrap round to an address.
func TestPlacesThatAddUp(t *testing.T) {
	g := example()
	for _, p := range []api.Place{
		{Unit: 1, Sector: -1},
		{Unit: -1, Sector: 2},
		{Page: 1, Unit: -2},
		{Block: 1, Page: -4},
		{Block: -1, Page: 4},
		{Block: 1 << 60},
		{Block: -1 << 60, Page: 1},
		{Page: 1 << 62},
		{Unit: math.MinInt},
		{Unit: 1 << 62, Page: 1 << 61},
	} {
		wantNumber(t, g, p, 0, api.ErrRange)
	}
}

// P3.2: every unit, the first that there isn't, negative ones.
func TestChannels(t *testing.T) {
	for _, g := range valid() {
		units := g.Chans * g.Luns
		for unit := range units {
			wantChan(t, g, unit, unit%g.Chans, api.OK)
		}
		for _, unit := range []int{-1, -units, math.MinInt, units, units + 1, math.MaxInt} {
			wantChan(t, g, unit, 0, api.ErrRange)
		}
	}
	// With one channel alone all units are of it.
	one := api.Geometry{Chans: 1, Luns: 2, Blocks: 1, Pages: 1, Sectors: 1}
	wantChan(t, one, 0, 0, api.OK)
	wantChan(t, one, 1, 0, api.OK)
	four := greatest()
	wantChan(t, four, 3, 3, api.OK)
	wantChan(t, four, 4, 0, api.OK)
	wantChan(t, four, 7, 3, api.OK)
}

// P3.3: Of and Number are inverse to each other; a line's addresses are contiguous; the pages of a unit increase within it.
func TestLinesAreContiguous(t *testing.T) {
	for _, g := range valid() {
		line := geom.Line(g)
		last := map[[2]int]int{}
		for addr := range geom.All(g) {
			p, err := geom.Of(g, addr)
			if err != api.OK || p.Block != addr/line {
				t.Fatalf("Of(%v, %d): %v, %d, want block %d", g, addr, p, err, addr/line)
			}
			wantNumber(t, g, p, addr, api.OK)
			unit := [2]int{p.Block, p.Unit}
			if p.Page < last[unit] || p.Page > last[unit]+1 {
				t.Fatalf("%v: page %d of unit %d comes behind page %d", g, p.Page, p.Unit, last[unit])
			}
			last[unit] = p.Page
		}
	}
}

// P3.3: consecutive units have different channels, but for one channel alone.
func TestConsecutiveUnitsDiffer(t *testing.T) {
	for _, g := range valid() {
		for unit := 1; unit < geom.Units(g); unit++ {
			before, _ := geom.Chan(g, unit-1)
			here, _ := geom.Chan(g, unit)
			if (before != here) != (g.Chans > 1) {
				t.Errorf("%v: unit %d has channel %d, unit %d has %d", g, unit-1, before, unit, here)
			}
		}
	}
}
