package plan_test

import (
	"bytes"
	"math"
	"slices"
	"testing"

	"strake/api"
	"strake/plan"
)

// every are all bytes, in order.
func every() []byte {
	l := make([]byte, 256)
	for i := range l {
		l[i] = byte(i)
	}
	return l
}

// plans are those of no bytes, of one, of some and of many.
func plans() [][]byte {
	mixed := make([]byte, 300)
	for i := range mixed {
		mixed[i] = byte(i * i * 37 >> 2)
	}
	return [][]byte{nil, {}, {0}, {1}, {2}, {3}, {255}, {254}, {0, 5, 14}, {6, 9}, {2, 2, 2}, {14, 14, 0, 14}, bytes.Repeat([]byte{253}, 40), every(), mixed}
}

// counts are numbers of sectors: all that a page may have, those beside them and those far beyond.
func counts() []int {
	return []int{0, 1, 2, 3, 4, -1, 5, -2, 6, -4, 7, 63, 255, 256, -256, 1 << 31, -1 << 31, 1<<32 + 2, -1<<32 + 2, math.MaxInt - 1, math.MaxInt, math.MinInt, math.MinInt + 1}
}

// wanted is P7.1 as it is written, for the tests alone.
func wanted(b byte, sectors int) (int, int) {
	switch b & 3 {
	case 1:
		return 1, 0
	case 2:
		many := int(b >> 2)
		switch sectors {
		case 1, 2, 3, 4:
			for many > sectors {
				many -= sectors + 1
			}
			return 2, many
		}
		return 2, 0
	}
	return 0, 0
}

func wantNext(t *testing.T, p *plan.Plan, sectors, outcome, many int) {
	t.Helper()
	if gotOutcome, gotMany := p.Next(sectors); gotOutcome != outcome || gotMany != many {
		t.Errorf("call %d, Next(%d): %d, %d, want %d, %d", p.Many(), sectors, gotOutcome, gotMany, outcome, many)
	}
}

func wantRest(t *testing.T, p *plan.Plan, want []byte) {
	t.Helper()
	if got := p.Rest(); !bytes.Equal(got, want) {
		t.Errorf("Rest after %d calls: %v, want %v", p.Many(), got, want)
	}
}

func wantMany(t *testing.T, p *plan.Plan, want int) {
	t.Helper()
	if got := p.Many(); got != want {
		t.Errorf("Many: %d, want %d", got, want)
	}
}

// P7.1

func TestNextKnown(t *testing.T) {
	for _, c := range []struct {
		b       byte
		sectors int
		outcome int
		many    int
	}{
		{0, 4, api.Good, 0}, {3, 4, api.Good, 0}, {4, 4, api.Good, 0}, {7, 4, api.Good, 0}, {252, 4, api.Good, 0}, {255, 4, api.Good, 0}, {255, 0, api.Good, 0},
		{1, 4, api.Fail, 0}, {5, 4, api.Fail, 0}, {9, 2, api.Fail, 0}, {253, 4, api.Fail, 0},
		{2, 0, api.Cut, 0}, {2, 4, api.Cut, 0}, {6, 0, api.Cut, 0}, {6, 1, api.Cut, 1}, {6, 2, api.Cut, 1}, {6, 4, api.Cut, 1},
		{10, 1, api.Cut, 0}, {10, 2, api.Cut, 2}, {14, 2, api.Cut, 0}, {14, 3, api.Cut, 3}, {18, 3, api.Cut, 0}, {18, 4, api.Cut, 4}, {22, 4, api.Cut, 0},
		{254, 0, api.Cut, 0}, {254, 1, api.Cut, 1}, {254, 2, api.Cut, 0}, {254, 3, api.Cut, 3}, {254, 4, api.Cut, 3},
		{6, -1, api.Cut, 0}, {6, 5, api.Cut, 0}, {6, 6, api.Cut, 0}, {254, -1, api.Cut, 0}, {254, 5, api.Cut, 0}, {254, 100, api.Cut, 0}, {254, math.MaxInt, api.Cut, 0}, {254, math.MinInt, api.Cut, 0},
	} {
		wantNext(t, plan.New([]byte{c.b}), c.sectors, c.outcome, c.many)
	}
}

func TestNextOfEachByte(t *testing.T) {
	for _, sectors := range counts() {
		p := plan.New(every())
		for _, b := range every() {
			outcome, many := wanted(b, sectors)
			wantNext(t, p, sectors, outcome, many)
		}
		wantRest(t, p, nil)
	}
}

// The outcomes have the numbers that the other layers know.
func TestOutcomes(t *testing.T) {
	if api.Good != 0 || api.Fail != 1 || api.Cut != 2 {
		t.Fatal("api's outcomes")
	}
	for b, want := range []int{api.Good, api.Fail, api.Cut, api.Good} {
		for high := range 64 {
			if got, _ := plan.New([]byte{byte(4*high + b)}).Next(0); got != want {
				t.Errorf("byte %d: %d, want %d", 4*high+b, got, want)
			}
		}
	}
}

func TestTheExample(t *testing.T) {
	p := plan.New([]byte{0, 5, 14})
	wantNext(t, p, 2, api.Good, 0)
	wantNext(t, p, 2, api.Fail, 0)
	wantNext(t, p, 2, api.Cut, 0)
	wantNext(t, p, 2, api.Good, 0)
	wantMany(t, p, 4)
}

// The number of sectors may be another one at each call, and a wrong one uses up its byte as well.
func TestSectorsOfEachCall(t *testing.T) {
	p := plan.New([]byte{254, 254, 254, 254, 254, 254, 254})
	wantNext(t, p, 3, api.Cut, 3)
	wantNext(t, p, -1, api.Cut, 0)
	wantRest(t, p, []byte{254, 254, 254, 254, 254})
	wantNext(t, p, 1, api.Cut, 1)
	wantNext(t, p, 5, api.Cut, 0)
	wantNext(t, p, 0, api.Cut, 0)
	wantNext(t, p, 4, api.Cut, 3)
	wantRest(t, p, []byte{254})
	wantNext(t, p, 2, api.Cut, 0)
	wantMany(t, p, 7)
}

func TestManyAndRest(t *testing.T) {
	for _, l := range plans() {
		p := plan.New(l)
		for i := range len(l) + 5 {
			wantMany(t, p, i)
			wantRest(t, p, l[min(i, len(l)):])
			// Asking twice changes nothing.
			wantMany(t, p, i)
			wantRest(t, p, l[min(i, len(l)):])
			p.Next(counts()[i%len(counts())])
		}
		wantMany(t, p, len(l)+5)
		wantRest(t, p, nil)
	}
}

func TestOfNoBytes(t *testing.T) {
	for _, l := range [][]byte{nil, {}, make([]byte, 0, 9), []byte{2, 2}[:0]} {
		p := plan.New(l)
		wantRest(t, p, nil)
		wantMany(t, p, 0)
		for i, sectors := range counts() {
			wantNext(t, p, sectors, api.Good, 0)
			wantMany(t, p, i+1)
			wantRest(t, p, nil)
		}
	}
}

// What lies beyond the bytes, within their capacity, is not the plan's.
func TestBytesWithinACapacity(t *testing.T) {
	whole := []byte{1, 2, 6, 6, 6}
	p := plan.New(whole[:2])
	wantRest(t, p, []byte{1, 2})
	wantNext(t, p, 2, api.Fail, 0)
	wantNext(t, p, 2, api.Cut, 0)
	wantNext(t, p, 2, api.Good, 0)
	wantRest(t, p, nil)
	if !bytes.Equal(whole, []byte{1, 2, 6, 6, 6}) {
		t.Errorf("changed: %v", whole)
	}
}

func TestLaterChangeOfTheBytes(t *testing.T) {
	for _, l := range plans() {
		given := slices.Clone(l)
		p := plan.New(given)
		for i := range l {
			for j := range given {
				given[j]++
			}
			_ = append(given[:i], 77)
			wantRest(t, p, l[i:])
			outcome, many := wanted(l[i], 3)
			wantNext(t, p, 3, outcome, many)
		}
	}
}

func TestLaterChangeOfTheRest(t *testing.T) {
	for _, l := range plans() {
		p := plan.New(l)
		var rests [][]byte
		for i := range l {
			rest := p.Rest()
			rests = append(rests, slices.Clone(rest), rest)
			spoilt := p.Rest()
			for j := range spoilt {
				spoilt[j]++
			}
			_ = append(spoilt, 6, 6)
			_ = append(spoilt[:0], 77)
			wantRest(t, p, l[i:])
			outcome, many := wanted(l[i], 4)
			wantNext(t, p, 4, outcome, many)
		}
		_ = append(p.Rest(), 6, 6)
		wantRest(t, p, nil)
		wantNext(t, p, 4, api.Good, 0)
		for i := 0; i < len(rests); i += 2 {
			if !bytes.Equal(rests[i], rests[i+1]) {
				t.Errorf("the rest %v has become %v", rests[i], rests[i+1])
			}
		}
	}
}

func TestArgumentsStay(t *testing.T) {
	for _, l := range plans() {
		before := slices.Clone(l)
		p := plan.New(l)
		for range len(l) + 3 {
			p.Next(4)
			rest := p.Rest()
			for j := range rest {
				rest[j]++
			}
		}
		if !bytes.Equal(l, before) {
			t.Errorf("%v has become %v", before, l)
		}
	}
}

// P7.2

func TestPlanOfTheRest(t *testing.T) {
	for _, l := range plans() {
		for at := range len(l) + 3 {
			one := plan.New(l)
			for i := range at {
				one.Next(counts()[i%len(counts())])
			}
			two := plan.New(one.Rest())
			wantMany(t, two, 0)
			for i := range len(l) + 3 {
				sectors := counts()[(i+at)%len(counts())]
				outcome, many := one.Next(sectors)
				wantNext(t, two, sectors, outcome, many)
				wantRest(t, two, one.Rest())
			}
		}
	}
}

// Bytes alone count: neither the number of sectors of earlier calls nor another plan between them.
func TestPlansApart(t *testing.T) {
	for _, l := range plans() {
		one, two, other := plan.New(l), plan.New(l), plan.New([]byte{2, 1, 6})
		for i, b := range l {
			one.Next(counts()[i%len(counts())])
			other.Next(3)
			outcome, many := wanted(b, 2)
			wantNext(t, two, 2, outcome, many)
			wantRest(t, two, one.Rest())
		}
		wantMany(t, two, len(l))
	}
}

func TestAllIsGoodBehindTheLastByte(t *testing.T) {
	for _, l := range plans() {
		p := plan.New(l)
		for range l {
			p.Next(4)
		}
		for i := range 600 {
			wantNext(t, p, counts()[i%len(counts())], api.Good, 0)
		}
		wantMany(t, p, len(l)+600)
		wantRest(t, p, nil)
	}
}
