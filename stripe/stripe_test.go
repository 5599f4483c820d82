package stripe_test

import (
	"math"
	"slices"
	"testing"

	"strake/api"
	"strake/geom"
	"strake/stripe"
)

var (
	example = api.Geometry{Chans: 2, Luns: 1, Blocks: 2, Pages: 3, Sectors: 2}
	least   = api.Geometry{Chans: 1, Luns: 1, Blocks: 1, Pages: 1, Sectors: 1}
	most    = api.Geometry{Chans: 4, Luns: 2, Blocks: 64, Pages: 32, Sectors: 4}
)

// parts are a geometry's numbers and the greatest that each may be.
func parts(g *api.Geometry) []struct {
	n    *int
	most int
} {
	return []struct {
		n    *int
		most int
	}{{&g.Chans, 4}, {&g.Luns, 2}, {&g.Blocks, 64}, {&g.Pages, 32}, {&g.Sectors, 4}}
}

// valid are geometries with all numbers of channels and LUNs, and some of the others.
func valid() []api.Geometry {
	l := []api.Geometry{example, least, most}
	for chans := 1; chans <= 4; chans++ {
		for luns := 1; luns <= 2; luns++ {
			for _, many := range [][3]int{{1, 1, 1}, {1, 32, 4}, {64, 1, 2}, {3, 4, 3}, {5, 7, 1}} {
				l = append(l, api.Geometry{Chans: chans, Luns: luns, Blocks: many[0], Pages: many[1], Sectors: many[2]})
			}
		}
	}
	return l
}

// wrong are geometries of which one number is out of its bounds, the zero one, and those whose negative numbers have a positive product.
func wrong() []api.Geometry {
	l := []api.Geometry{{}, {Chans: -2, Luns: -1, Blocks: 2, Pages: 3, Sectors: 2}, {Chans: -2, Luns: 1, Blocks: 2, Pages: -3, Sectors: 2}, {Chans: 2, Luns: 1, Blocks: -2, Pages: -3, Sectors: 2}}
	for _, from := range []api.Geometry{example, least, most} {
		for i, part := range parts(&from) {
			for _, n := range []int{0, -1, part.most + 1, math.MinInt, math.MaxInt} {
				g := from
				*parts(&g)[i].n = n
				l = append(l, g)
			}
		}
	}
	return l
}

// above are numbers that none of so many things has, since they are too great. By a product of some of them an address wraps round.
func above(many int) []int {
	return []int{many, many + 1, 2 * many, many + 1000, 1 << 31, 1<<31 + 1, 1 << 32, 1<<32 + 1, 1 << 56, 1 << 60, 1 << 61, 1 << 62, 1<<62 + 1, math.MaxInt - 1, math.MaxInt}
}

func below() []int {
	return []int{-1, -2, -8, -1000, -1 << 31, -1<<31 - 1, -1 << 32, -1 << 56, -1 << 61, -1 << 62, math.MinInt + 1, math.MinInt}
}

func beyond(many int) []int { return append(above(many), below()...) }

// spot is where a page of a line is.
type spot struct{ unit, page int }

// spots are the pages of a line in their order, as the chapter has it: by Page, then by Unit.
func spots(g api.Geometry) []spot {
	var l []spot
	for page := 0; page < g.Pages; page++ {
		for unit := 0; unit < g.Chans*g.Luns; unit++ {
			l = append(l, spot{unit, page})
		}
	}
	return l
}

// deads are all sets of units, in several lists each: in order, the other way round, repeated, and with numbers of no unit.
func deads(g api.Geometry) [][]int {
	units := g.Chans * g.Luns
	l := [][]int{nil, {}, {-1}, {units}, beyond(units)}
	for set := range 1 << units {
		var in, mixed []int
		for unit := range units {
			if set>>unit&1 == 1 {
				in = append(in, unit)
				mixed = append(mixed, -1-unit, unit, units+unit, unit, unit+1<<32)
			}
		}
		back := slices.Clone(in)
		slices.Reverse(back)
		l = append(l, in, back, append(mixed, back...))
	}
	return l
}

// from are the pages, from a number on, of units that are not dead.
func from(g api.Geometry, dead []int, k int) []int {
	var l []int
	for n, s := range spots(g) {
		if n >= k && !slices.Contains(dead, s.unit) {
			l = append(l, n)
		}
	}
	return l
}

// starts are numbers to start from: of all pages, and of none.
func starts(g api.Geometry) []int {
	many := len(spots(g))
	l := beyond(many)
	for k := range many {
		l = append(l, k)
	}
	return l
}

func wantSpot(t *testing.T, g api.Geometry, k, unit, page int, err api.Errno) {
	t.Helper()
	if gotUnit, gotPage, gotErr := stripe.Spot(g, k); gotUnit != unit || gotPage != page || gotErr != err {
		t.Errorf("Spot(%v, %d): %d, %d, %v, want %d, %d, %v", g, k, gotUnit, gotPage, gotErr, unit, page, err)
	}
}

func wantFirst(t *testing.T, g api.Geometry, line, k, addr int, err api.Errno) {
	t.Helper()
	if got, gotErr := stripe.First(g, line, k); got != addr || gotErr != err {
		t.Errorf("First(%v, %d, %d): %d, %v, want %d, %v", g, line, k, got, gotErr, addr, err)
	}
}

func wantNext(t *testing.T, g api.Geometry, dead []int, k, want int) {
	t.Helper()
	if got := stripe.Next(g, dead, k); got != want {
		t.Errorf("Next(%v, %v, %d): %d, want %d", g, dead, k, got, want)
	}
}

func wantLeft(t *testing.T, g api.Geometry, dead []int, k, want int) {
	t.Helper()
	if got := stripe.Left(g, dead, k); got != want {
		t.Errorf("Left(%v, %v, %d): %d, want %d", g, dead, k, got, want)
	}
}

// The chapter's examples.
func TestExamples(t *testing.T) {
	wantSpot(t, example, 3, 1, 1, api.OK)
	wantNext(t, example, []int{1}, 1, 2)
	wantLeft(t, example, []int{1}, 1, 2)
	wantNext(t, example, []int{0, 1}, 0, -1)
}

// P9.1

func TestSpotKnown(t *testing.T) {
	wantSpot(t, example, 0, 0, 0, api.OK)
	wantSpot(t, example, 1, 1, 0, api.OK)
	wantSpot(t, example, 5, 1, 2, api.OK)
	wantSpot(t, example, 6, 0, 0, api.ErrRange)
	wantSpot(t, example, -1, 0, 0, api.ErrRange)
	wantSpot(t, least, 0, 0, 0, api.OK)
	wantSpot(t, least, 1, 0, 0, api.ErrRange)
	wantSpot(t, most, 255, 7, 31, api.OK)
	wantSpot(t, most, 256, 0, 0, api.ErrRange)
}

func TestSpotOfEveryPage(t *testing.T) {
	for _, g := range valid() {
		l := spots(g)
		for k, s := range l {
			wantSpot(t, g, k, s.unit, s.page, api.OK)
		}
		for _, k := range beyond(len(l)) {
			wantSpot(t, g, k, 0, 0, api.ErrRange)
		}
	}
}

// A geometry that is not valid comes ahead of a number that is out of range.
func TestSpotOfWrongGeometry(t *testing.T) {
	for _, g := range wrong() {
		for _, k := range append(beyond(6), 0, 1, 5) {
			wantSpot(t, g, k, 0, 0, api.ErrArg)
		}
	}
}

func TestFirstKnown(t *testing.T) {
	wantFirst(t, example, 0, 0, 0, api.OK)
	wantFirst(t, example, 0, 1, 2, api.OK)
	wantFirst(t, example, 0, 5, 10, api.OK)
	wantFirst(t, example, 1, 0, 12, api.OK)
	wantFirst(t, example, 1, 3, 18, api.OK)
	wantFirst(t, example, 1, 5, 22, api.OK)
	wantFirst(t, example, 2, 0, 0, api.ErrRange)
	wantFirst(t, example, -1, 0, 0, api.ErrRange)
	wantFirst(t, example, 0, 6, 0, api.ErrRange)
	wantFirst(t, example, 0, -1, 0, api.ErrRange)
	// The page before line 1 is no page of it, nor is the one behind line 0 one of that.
	wantFirst(t, example, 1, -1, 0, api.ErrRange)
	wantFirst(t, example, -1, 6, 0, api.ErrRange)
	wantFirst(t, least, 0, 0, 0, api.OK)
	wantFirst(t, least, 0, 1, 0, api.ErrRange)
	wantFirst(t, least, 1, 0, 0, api.ErrRange)
	wantFirst(t, most, 63, 255, 65532, api.OK)
	wantFirst(t, most, 63, 256, 0, api.ErrRange)
	wantFirst(t, most, 64, 255, 0, api.ErrRange)
}

// The address of a page's first sector is the one whose place, as chapter 3 has it, is in that line, unit and page.
func TestFirstOfEveryPage(t *testing.T) {
	for _, g := range valid() {
		for line := range g.Blocks {
			for k, s := range spots(g) {
				addr, err := geom.Number(g, api.Place{Unit: s.unit, Block: line, Page: s.page})
				if err != api.OK {
					t.Fatalf("no place for page %d of line %d of %v", k, line, g)
				}
				wantFirst(t, g, line, k, addr, api.OK)
			}
		}
	}
}

func TestFirstBeyond(t *testing.T) {
	for _, g := range valid() {
		many := len(spots(g))
		for _, k := range beyond(many) {
			wantFirst(t, g, 0, k, 0, api.ErrRange)
			wantFirst(t, g, g.Blocks-1, k, 0, api.ErrRange)
			for _, line := range beyond(g.Blocks) {
				wantFirst(t, g, line, k, 0, api.ErrRange)
			}
		}
		for _, line := range beyond(g.Blocks) {
			wantFirst(t, g, line, 0, 0, api.ErrRange)
			wantFirst(t, g, line, many-1, 0, api.ErrRange)
		}
	}
}

// A geometry that is not valid comes ahead of a line and a number that are out of range.
func TestFirstOfWrongGeometry(t *testing.T) {
	for _, g := range wrong() {
		for _, line := range append(beyond(64), 0, 1) {
			for _, k := range append(beyond(256), 0, 1) {
				wantFirst(t, g, line, k, 0, api.ErrArg)
			}
		}
	}
}

// P9.2

func TestNextKnown(t *testing.T) {
	wantNext(t, example, nil, 0, 0)
	wantNext(t, example, nil, 5, 5)
	wantNext(t, example, nil, 6, -1)
	wantNext(t, example, nil, -1, 0)
	wantNext(t, example, []int{0}, -1, 1)
	wantNext(t, example, []int{0}, 4, 5)
	wantNext(t, example, []int{1}, 4, 4)
	wantNext(t, example, []int{1}, 5, -1)
	wantNext(t, example, []int{9, 1, -1, 1}, 3, 4)
	wantNext(t, example, []int{2, -1}, 3, 3)
	wantNext(t, example, []int{1, 0}, math.MinInt, -1)
	wantNext(t, most, []int{0, 1, 2, 3, 4, 5, 6}, 0, 7)
	wantNext(t, most, []int{1, 2, 3, 4, 5, 6, 7}, 1, 8)
	wantNext(t, most, []int{1, 2, 3, 4, 5, 6, 7}, 248, 248)
	wantNext(t, most, []int{1, 2, 3, 4, 5, 6, 7}, 249, -1)
	wantNext(t, most, []int{8}, 255, 255)
	wantNext(t, most, nil, 256, -1)
	wantNext(t, most, nil, math.MaxInt, -1)
}

func TestLeftKnown(t *testing.T) {
	wantLeft(t, example, nil, 0, 6)
	wantLeft(t, example, nil, -1, 6)
	wantLeft(t, example, nil, 5, 1)
	wantLeft(t, example, nil, 6, 0)
	wantLeft(t, example, []int{0}, 0, 3)
	wantLeft(t, example, []int{0}, 5, 1)
	wantLeft(t, example, []int{1}, 5, 0)
	wantLeft(t, example, []int{1, 1, 9}, 1, 2)
	wantLeft(t, example, []int{-1, 2}, 0, 6)
	wantLeft(t, example, []int{1, 0}, 0, 0)
	wantLeft(t, least, nil, 0, 1)
	wantLeft(t, least, []int{0}, 0, 0)
	wantLeft(t, most, nil, math.MinInt, 256)
	wantLeft(t, most, []int{7}, 0, 224)
	wantLeft(t, most, []int{8}, 255, 1)
	wantLeft(t, most, nil, math.MaxInt, 0)
}

// Each number to start from, with each set of dead units.
func TestNextAndLeftFromEverywhere(t *testing.T) {
	for _, g := range []api.Geometry{example, least, {Chans: 3, Luns: 1, Blocks: 1, Pages: 4, Sectors: 1}, {Chans: 2, Luns: 2, Blocks: 64, Pages: 3, Sectors: 4}, {Chans: 1, Luns: 2, Blocks: 2, Pages: 32, Sectors: 1}} {
		for _, dead := range deads(g) {
			for _, k := range starts(g) {
				l := from(g, dead, k)
				wantLeft(t, g, dead, k, len(l))
				wantNext(t, g, dead, k, append(l, -1)[0])
			}
		}
	}
}

func TestNextAndLeftOfTheGreatest(t *testing.T) {
	for _, dead := range deads(most) {
		for _, k := range append(beyond(256), 0, 1, 7, 8, 100, 247, 248, 254, 255) {
			l := from(most, dead, k)
			wantLeft(t, most, dead, k, len(l))
			wantNext(t, most, dead, k, append(l, -1)[0])
		}
	}
}

func TestNextAndLeftOfWrongGeometry(t *testing.T) {
	for _, g := range wrong() {
		for _, dead := range [][]int{nil, {}, {0}, {1}, {0, 1, 2, 3, 4, 5, 6, 7}, beyond(8)} {
			for _, k := range append(beyond(256), 0, 1, 255) {
				wantNext(t, g, dead, k, -1)
				wantLeft(t, g, dead, k, 0)
			}
		}
	}
}

// A long list is no other than the units that occur in it.
func TestLongListOfDead(t *testing.T) {
	dead := make([]int, 1<<20)
	for i := range dead {
		dead[i] = 8 + i
	}
	dead[len(dead)-1] = 0
	wantNext(t, most, dead, 0, 1)
	wantLeft(t, most, dead, 0, 224)
	dead[len(dead)-1] = 8
	wantNext(t, most, dead, 0, 0)
	wantLeft(t, most, dead, 0, 256)
}

// P9.3

// visited are the numbers that Next returns, from 0 on; it stops if they don't end.
func visited(t *testing.T, g api.Geometry, dead []int) []int {
	t.Helper()
	var l []int
	for n := stripe.Next(g, dead, 0); n != -1; n = stripe.Next(g, dead, n+1) {
		l = append(l, n)
		if len(l) > len(spots(g)) {
			t.Fatalf("Next(%v, %v): there are too many: %v", g, dead, l)
		}
	}
	return l
}

func TestEveryPageOnce(t *testing.T) {
	for _, g := range valid() {
		for _, dead := range deads(g) {
			count := map[spot]int{}
			last := map[int]int{}
			for _, n := range visited(t, g, dead) {
				unit, page, err := stripe.Spot(g, n)
				if err != api.OK || slices.Contains(dead, unit) {
					t.Fatalf("Next(%v, %v) returned %d: unit %d, %v", g, dead, n, unit, err)
				}
				if before, ok := last[unit]; ok && page <= before {
					t.Errorf("%v, dead %v: unit %d has page %d behind page %d", g, dead, unit, page, before)
				}
				last[unit] = page
				count[spot{unit, page}]++
			}
			for _, s := range spots(g) {
				want := 1
				if slices.Contains(dead, s.unit) {
					want = 0
				}
				if count[s] != want {
					t.Errorf("%v, dead %v: page %d of unit %d was returned %d times", g, dead, s.page, s.unit, count[s])
				}
			}
		}
	}
}

func TestLeftIsWhatNextStillReturns(t *testing.T) {
	for _, g := range valid() {
		for _, dead := range deads(g) {
			l := visited(t, g, dead)
			wantLeft(t, g, dead, 0, len(l))
			// Of a long line some are enough, in steps that meet each unit.
			step := 1 + len(spots(g))/64*2
			for i := 0; i < len(l); i += step {
				wantLeft(t, g, dead, l[i], len(l)-i)
				wantLeft(t, g, dead, l[i]+1, len(l)-i-1)
			}
		}
	}
}

func TestMoreDeadNeverIncreaseLeft(t *testing.T) {
	for _, g := range []api.Geometry{example, least, {Chans: 3, Luns: 2, Blocks: 1, Pages: 3, Sectors: 1}} {
		for _, dead := range deads(g) {
			for _, more := range append(beyond(g.Chans*g.Luns), 0, 1, 2, 3, 4, 5) {
				for _, k := range starts(g) {
					few := stripe.Left(g, append(slices.Clone(dead), more), k)
					if many := stripe.Left(g, dead, k); few > many {
						t.Errorf("Left(%v, %v, %d): %d, with %d as well %d", g, dead, k, many, more, few)
					}
				}
			}
		}
	}
}

func TestPagesAreContiguous(t *testing.T) {
	for _, g := range valid() {
		next := 0
		for line := range g.Blocks {
			for k := stripe.Next(g, nil, 0); k != -1; k = stripe.Next(g, nil, k+1) {
				wantFirst(t, g, line, k, next, api.OK)
				next += g.Sectors
			}
		}
		if next != geom.All(g) {
			t.Errorf("%v: the pages end at %d, the addresses at %d", g, next, geom.All(g))
		}
	}
}

// R3 and R4

func TestListIsNotChanged(t *testing.T) {
	for _, g := range append(wrong(), example, most) {
		dead := []int{7, 1, 1, -1, 0, 1 << 40, 9, 7, math.MinInt}
		kept := slices.Clone(dead)
		for _, k := range []int{-1, 0, 3, 256} {
			n, many := stripe.Next(g, dead, k), stripe.Left(g, dead, k)
			if !slices.Equal(dead, kept) {
				t.Fatalf("%v: the list is %v, it was %v", g, dead, kept)
			}
			wantNext(t, g, dead, k, n)
			wantLeft(t, g, dead, k, many)
		}
	}
}

// What was dead in one call is not in the next one.
func TestCallsAreApart(t *testing.T) {
	wantLeft(t, example, []int{0, 1}, 0, 0)
	wantNext(t, example, []int{0, 1}, 0, -1)
	wantLeft(t, example, nil, 0, 6)
	wantNext(t, example, nil, 0, 0)
	wantLeft(t, most, []int{1}, 0, 224)
	wantLeft(t, example, []int{0}, 0, 3)
}
