package gate_test

import (
	"math"
	"testing"

	"strake/api"
	"strake/gate"
)

// The chapter's kinds and limits.
const (
	clients  = 1
	movers   = 2
	mostHigh = 4096
	mostMany = 256
)

// far are numbers beyond all limits, and numbers that would be right if they were cut off.
func far() []int {
	return []int{-1, -2, -3, -256, -4096, mostHigh + 1, 1 << 31, 1<<31 + 1, -1 << 31, 1 << 32, 1<<32 + 1, 1<<32 + 2, 1<<32 + 8, -1 << 32, 1 << 40, 1 << 56, 1<<62 + 4, 1 << 62, -1 << 62, math.MaxInt - 1, math.MaxInt, math.MinInt, math.MinInt + 1}
}

// otherKinds are those of no token.
func otherKinds() []int { return append(far(), 0, 3, 4, 255, 256, 257, 258) }

// areRight tells by the chapter's words whether bounds are valid.
func areRight(low, high, many int) bool {
	switch {
	case low < 0:
		return false
	case high <= low:
		return false
	case high > 4096:
		return false
	}
	return many >= 0 && many <= 256
}

// model is what Split answers by the chapter's words. It rounds down without a division.
func model(free, low, high, many int) (int, int) {
	switch {
	case !areRight(low, high, many):
		return 0, 0
	case free <= low:
		return 0, many
	case free >= high:
		return many, 0
	}
	first := 0
	for (first+1)*(high-low) <= many*(free-low) {
		first++
	}
	return first, many - first
}

func wantSplit(t *testing.T, free, low, high, many, first, second int) {
	t.Helper()
	if a, b := gate.Split(free, low, high, many); a != first || b != second {
		t.Errorf("Split(%d, %d, %d, %d): %d, %d, want %d, %d", free, low, high, many, a, b, first, second)
	}
}

// wantModel holds what Split answers against the model.
func wantModel(t *testing.T, free, low, high, many int) {
	t.Helper()
	first, second := model(free, low, high, many)
	wantSplit(t, free, low, high, many, first, second)
}

// made is a gate that must be made.
func made(t *testing.T, many int) *gate.Gate {
	t.Helper()
	g, err := gate.New(many)
	if err != api.OK || g == nil {
		t.Fatalf("New(%d): %v, %v, want a gate", many, g, err)
	}
	return g
}

// filled is a gate that was filled once.
func filled(t *testing.T, many, free, low, high int) *gate.Gate {
	t.Helper()
	g := made(t, many)
	g.Fill(free, low, high)
	return g
}

func wantLeft(t *testing.T, g *gate.Gate, first, second int) {
	t.Helper()
	if a, b := g.Left(clients), g.Left(movers); a != first || b != second {
		t.Errorf("left: %d, %d, want %d, %d", a, b, first, second)
	}
}

func wantTake(t *testing.T, g *gate.Gate, kind int, want bool) {
	t.Helper()
	if got := g.Take(kind); got != want {
		t.Errorf("Take(%d): %v, want %v", kind, got, want)
	}
}

// wantTakes takes all tokens of a kind, of which there must be so many, and holds each time what is left against what is to be.
func wantTakes(t *testing.T, g *gate.Gate, kind, many int) {
	t.Helper()
	other := clients + movers - kind
	beside := g.Left(other)
	for i := range many {
		if !g.Take(kind) {
			t.Fatalf("Take(%d): false after %d of %d tokens", kind, i, many)
		}
		if a, b := g.Left(kind), g.Left(other); a != many-1-i || b != beside {
			t.Fatalf("after token %d of %d: %d of kind %d and %d of kind %d are left", i, many, a, kind, b, other)
		}
	}
	for range 3 {
		wantTake(t, g, kind, false)
	}
	if got := g.Left(kind); got != 0 {
		t.Errorf("Left(%d): %d after the last one", kind, got)
	}
}

// walk are numbers that look like chance, and are the same each time.
type walk uint64

func (w *walk) next(n int) int {
	*w = *w*6364136223846793005 + 1442695040888963407
	return int(uint64(*w) >> 33 % uint64(n))
}

// one is a number of a list.
func (w *walk) one(list []int) int { return list[w.next(len(list))] }

// P14.1

func TestSplitExamples(t *testing.T) {
	wantSplit(t, 3, 2, 6, 8, 2, 6)
	wantSplit(t, 9, 2, 6, 8, 8, 0)
	wantSplit(t, 3, 6, 2, 8, 0, 0)
}

func TestSplitAtBounds(t *testing.T) {
	for _, free := range []int{math.MinInt, -4096, -1, 0, 1, 2} {
		wantSplit(t, free, 2, 6, 8, 0, 8)
	}
	wantSplit(t, 3, 2, 6, 8, 2, 6)
	wantSplit(t, 4, 2, 6, 8, 4, 4)
	wantSplit(t, 5, 2, 6, 8, 6, 2)
	for _, free := range []int{6, 7, 8, 4096, 4097, math.MaxInt} {
		wantSplit(t, free, 2, 6, 8, 8, 0)
	}
}

func TestSplitRoundsDown(t *testing.T) {
	wantSplit(t, 1, 0, 3, 8, 2, 6)
	wantSplit(t, 2, 0, 3, 8, 5, 3)
	wantSplit(t, 1, 0, 3, 2, 0, 2)
	wantSplit(t, 2, 0, 3, 2, 1, 1)
	wantSplit(t, 1, 0, 2, 1, 0, 1)
	wantSplit(t, 11, 5, 12, 5, 4, 1)
	wantSplit(t, 4095, 0, 4096, 256, 255, 1)
	wantSplit(t, 4095, 0, 4096, 1, 0, 1)
	wantSplit(t, 15, 0, 4096, 256, 0, 256)
	wantSplit(t, 16, 0, 4096, 256, 1, 255)
	wantSplit(t, 4095, 1, 4096, 256, 255, 1)
	wantSplit(t, 4094, 1, 4095, 255, 254, 1)
}

func TestSplitLow(t *testing.T) {
	for _, free := range []int{-2, -1, 0, 1, 4, 6, 7} {
		wantSplit(t, free, -1, 6, 8, 0, 0)
		wantModel(t, free, 0, 6, 8)
	}
	wantSplit(t, -1, 0, 6, 8, 0, 8)
	wantSplit(t, 0, 0, 6, 8, 0, 8)
	wantSplit(t, 3, 0, 6, 8, 4, 4)
	wantSplit(t, 4094, 4095, 4096, 8, 0, 8)
	wantSplit(t, 4095, 4095, 4096, 8, 0, 8)
	wantSplit(t, 4096, 4095, 4096, 8, 8, 0)
}

func TestSplitHigh(t *testing.T) {
	for _, low := range []int{0, 1, 2, 4094, 4095} {
		for _, free := range []int{-1, 0, low - 1, low, low + 1, low + 2, 5000} {
			wantSplit(t, free, low, low, 8, 0, 0)
			wantSplit(t, free, low, low-1, 8, 0, 0)
		}
		wantSplit(t, low, low, low+1, 8, 0, 8)
		wantSplit(t, low+1, low, low+1, 8, 8, 0)
	}
	for _, free := range []int{-1, 0, 1, 2048, 4095, 4096, 4097, 4098} {
		wantModel(t, free, 0, 4096, 8)
		wantSplit(t, free, 0, 4097, 8, 0, 0)
		wantSplit(t, free, 4096, 4096, 8, 0, 0)
		wantSplit(t, free, 4096, 4097, 8, 0, 0)
		wantSplit(t, free, 4097, 4098, 8, 0, 0)
	}
	wantSplit(t, 2048, 0, 4096, 8, 4, 4)
}

func TestSplitMany(t *testing.T) {
	for _, free := range []int{-1, 0, 2, 3, 4, 5, 6, 7} {
		wantSplit(t, free, 2, 6, -1, 0, 0)
		wantSplit(t, free, 2, 6, 0, 0, 0)
		wantModel(t, free, 2, 6, 1)
		wantModel(t, free, 2, 6, 256)
		wantSplit(t, free, 2, 6, 257, 0, 0)
	}
	wantSplit(t, 5, 2, 6, 1, 0, 1)
	wantSplit(t, 6, 2, 6, 1, 1, 0)
	wantSplit(t, 5, 2, 6, 256, 192, 64)
}

func TestSplitFarNumbers(t *testing.T) {
	for _, n := range far() {
		wantModel(t, n, 2, 6, 8)
		wantModel(t, n, 0, 4096, 256)
		for _, free := range []int{-1, 0, 3, 7} {
			wantSplit(t, free, n, 6, 8, 0, 0)
			wantSplit(t, free, n, n, 8, 0, 0)
			wantSplit(t, free, 2, n, 8, 0, 0)
			wantSplit(t, free, 2, 6, n, 0, 0)
		}
	}
}

// Numbers of which each alone is far, or right, or near a bound.
func TestSplitFarNumbersTogether(t *testing.T) {
	list := []int{math.MinInt, math.MinInt + 1, -1 << 32, -1, 0, 1, 2, 6, 256, 257, 4095, 4096, 4097, 1 << 32, 1<<32 + 6, math.MaxInt - 1, math.MaxInt}
	for _, free := range list {
		for _, low := range list {
			for _, high := range list {
				for _, many := range list {
					wantModel(t, free, low, high, many)
				}
			}
		}
	}
}

func TestAllSmallSplits(t *testing.T) {
	for low := -2; low <= 9; low++ {
		for high := -2; high <= 11; high++ {
			for many := -2; many <= 9; many++ {
				for free := -4; free <= 14; free++ {
					wantModel(t, free, low, high, many)
				}
			}
		}
	}
}

func TestSplitAtEveryFree(t *testing.T) {
	for _, b := range [][3]int{{0, 4096, 256}, {1, 4096, 256}, {0, 4095, 255}, {17, 3000, 100}, {4000, 4096, 256}, {0, 256, 256}, {5, 4091, 1}} {
		for free := b[0] - 3; free <= b[1]+3; free++ {
			wantModel(t, free, b[0], b[1], b[2])
		}
	}
}

func TestSplitOfEveryMany(t *testing.T) {
	for many := -2; many <= mostMany+2; many++ {
		for _, free := range []int{1, 2, 3, 7, 11, 12, 13, 14} {
			wantModel(t, free, 2, 13, many)
		}
	}
}

// P14.2

func TestNew(t *testing.T) {
	for many := 1; many <= mostMany; many++ {
		wantLeft(t, made(t, many), 0, 0)
	}
	for _, many := range append(far(), 0, 257, 258, 512) {
		if g, err := gate.New(many); g != nil || err != api.ErrArg {
			t.Errorf("New(%d): %v, %v, want ErrArg", many, g, err)
		}
	}
}

func TestAheadOfFirstFill(t *testing.T) {
	for _, many := range []int{1, 8, mostMany} {
		g := made(t, many)
		for range 2 {
			wantLeft(t, g, 0, 0)
			wantTake(t, g, clients, false)
			wantTake(t, g, movers, false)
		}
		g.Fill(3, 2, 6)
		first, second := model(3, 2, 6, many)
		wantLeft(t, g, first, second)
	}
}

func TestGateExample(t *testing.T) {
	g := filled(t, 8, 3, 2, 6)
	wantTake(t, g, clients, true)
	wantTake(t, g, clients, true)
	wantTake(t, g, clients, false)
	if got := g.Left(movers); got != 6 {
		t.Errorf("Left(2): %d, want 6", got)
	}
}

func TestFillAsSplit(t *testing.T) {
	for _, many := range []int{1, 2, 7, 8, 255, 256} {
		g := made(t, many)
		for _, b := range [][2]int{{2, 6}, {0, 1}, {0, 13}, {4095, 4096}, {0, 4096}} {
			for _, free := range append(far(), b[0]-1, b[0], b[0]+1, (b[0]+b[1])/2, b[1]-1, b[1], b[1]+1) {
				g.Fill(free, b[0], b[1])
				first, second := gate.Split(free, b[0], b[1], many)
				wantLeft(t, g, first, second)
			}
		}
	}
}

func TestTakeTillNoneIsLeft(t *testing.T) {
	for _, many := range []int{1, 2, 8, mostMany} {
		for _, free := range []int{1, 2, 3, 4, 5, 6, 7} {
			first, second := model(free, 2, 6, many)
			g := filled(t, many, free, 2, 6)
			wantTakes(t, g, clients, first)
			wantTakes(t, g, movers, second)
			g = filled(t, many, free, 2, 6)
			wantTakes(t, g, movers, second)
			wantTakes(t, g, clients, first)
			wantLeft(t, g, 0, 0)
		}
	}
}

func TestTakeByTurns(t *testing.T) {
	g := filled(t, 8, 4, 2, 6)
	for i := range 4 {
		wantTake(t, g, clients, true)
		wantLeft(t, g, 3-i, 4-i)
		wantTake(t, g, movers, true)
		wantLeft(t, g, 3-i, 3-i)
	}
	wantTake(t, g, clients, false)
	wantTake(t, g, movers, false)
}

func TestOtherKinds(t *testing.T) {
	g := filled(t, 8, 3, 2, 6)
	for _, kind := range otherKinds() {
		wantTake(t, g, kind, false)
		if got := g.Left(kind); got != 0 {
			t.Errorf("Left(%d): %d, want 0", kind, got)
		}
		wantLeft(t, g, 2, 6)
	}
	wantTakes(t, g, clients, 2)
	wantTakes(t, g, movers, 6)
	for _, kind := range otherKinds() {
		wantTake(t, g, kind, false)
	}
}

func TestOtherKindsOfNewGate(t *testing.T) {
	g := made(t, 8)
	for _, kind := range otherKinds() {
		wantTake(t, g, kind, false)
		if got := g.Left(kind); got != 0 {
			t.Errorf("Left(%d): %d, want 0", kind, got)
		}
	}
}

// What Left is asked takes nothing.
func TestLeftTakesNothing(t *testing.T) {
	g := filled(t, 8, 3, 2, 6)
	for range 20 {
		wantLeft(t, g, 2, 6)
	}
	wantTakes(t, g, clients, 2)
	wantTakes(t, g, movers, 6)
}

func TestFillWhileTokensAreLeft(t *testing.T) {
	g := filled(t, 8, 3, 2, 6)
	g.Fill(5, 2, 6)
	wantLeft(t, g, 6, 2)
	g.Fill(3, 2, 6)
	wantLeft(t, g, 2, 6)
	wantTake(t, g, clients, true)
	wantTake(t, g, movers, true)
	wantLeft(t, g, 1, 5)
	g.Fill(3, 2, 6)
	wantLeft(t, g, 2, 6)
	g.Fill(6, 2, 6)
	wantLeft(t, g, 8, 0)
	wantTakes(t, g, clients, 8)
	wantTakes(t, g, movers, 0)
	g.Fill(2, 2, 6)
	wantLeft(t, g, 0, 8)
	wantTakes(t, g, clients, 0)
	wantTakes(t, g, movers, 8)
}

func TestFillWithBoundsThatAreNotValid(t *testing.T) {
	list := [][2]int{{6, 2}, {3, 3}, {-1, 6}, {0, 0}, {0, 4097}, {4096, 4096}, {4096, 4097}, {math.MinInt, math.MaxInt}, {math.MaxInt, math.MinInt}, {math.MinInt, 6}, {2, math.MaxInt}, {2, math.MinInt}, {math.MaxInt, 6}}
	for _, b := range list {
		for _, free := range append(far(), 0, 3, 6) {
			g := made(t, 8)
			g.Fill(free, b[0], b[1])
			wantLeft(t, g, 0, 0)
			g.Fill(3, 2, 6)
			wantTake(t, g, movers, true)
			g.Fill(free, b[0], b[1])
			wantLeft(t, g, 0, 0)
			wantTake(t, g, clients, false)
			wantTake(t, g, movers, false)
			g.Fill(3, 2, 6)
			wantLeft(t, g, 2, 6)
		}
	}
}

func TestManyFills(t *testing.T) {
	for _, many := range []int{1, 8, mostMany} {
		g := made(t, many)
		for i := range 3000 {
			free := i % 9
			g.Fill(free, 2, 6)
			first, second := model(free, 2, 6, many)
			wantLeft(t, g, first, second)
		}
		g.Fill(3, 2, 6)
		first, second := model(3, 2, 6, many)
		wantTakes(t, g, clients, first)
		wantTakes(t, g, movers, second)
	}
}

func TestTwoGates(t *testing.T) {
	a, b := made(t, 8), made(t, 8)
	a.Fill(3, 2, 6)
	wantLeft(t, b, 0, 0)
	wantTake(t, b, movers, false)
	b.Fill(5, 2, 6)
	wantLeft(t, a, 2, 6)
	wantLeft(t, b, 6, 2)
	wantTakes(t, a, clients, 2)
	wantLeft(t, b, 6, 2)
	wantTakes(t, b, movers, 2)
	wantLeft(t, a, 0, 6)
	a.Fill(3, 6, 2)
	wantLeft(t, a, 0, 0)
	wantLeft(t, b, 6, 0)

	one, most := filled(t, 1, 6, 2, 6), filled(t, mostMany, 6, 2, 6)
	wantLeft(t, one, 1, 0)
	wantLeft(t, most, mostMany, 0)
}

// counted is a gate as two numbers.
type counted struct {
	many          int
	first, second int
}

func (c *counted) take(kind int) bool {
	switch {
	case kind == clients && c.first > 0:
		c.first--
	case kind == movers && c.second > 0:
		c.second--
	default:
		return false
	}
	return true
}

// Several gates are asked by turns, each against numbers of its own.
func TestLongRuns(t *testing.T) {
	w := walk(1)
	for _, many := range []int{1, 2, 5, 8, 64, 255, 256} {
		gates := []*gate.Gate{made(t, many), made(t, many), made(t, 3)}
		counts := []*counted{{many: many}, {many: many}, {many: 3}}
		for range 4000 {
			i := w.next(len(gates))
			g, c := gates[i], counts[i]
			if w.next(8) == 0 {
				free, low, high := w.next(20)-4, w.next(8)-1, w.next(16)
				g.Fill(free, low, high)
				c.first, c.second = model(free, low, high, c.many)
			} else {
				kind := w.one([]int{clients, movers, clients, movers, clients, movers, 0, 3, -1})
				wantTake(t, g, kind, c.take(kind))
			}
			for j := range gates {
				wantLeft(t, gates[j], counts[j].first, counts[j].second)
			}
		}
	}
}

// P14.3

// wantShares holds what a Split answers against what the one with less free was answered.
func wantShares(t *testing.T, free, low, high, many, lastFirst, lastSecond int) (int, int) {
	t.Helper()
	first, second := gate.Split(free, low, high, many)
	if first < lastFirst {
		t.Errorf("Split(%d, %d, %d, %d): clients get %d, and %d with less", free, low, high, many, first, lastFirst)
	}
	if second > lastSecond {
		t.Errorf("Split(%d, %d, %d, %d): garbage collection gets %d, and %d with less", free, low, high, many, second, lastSecond)
	}
	if first < 0 || second < 0 || first+second != many {
		t.Errorf("Split(%d, %d, %d, %d): %d and %d, which isn't all", free, low, high, many, first, second)
	}
	return first, second
}

func TestMoreFree(t *testing.T) {
	w := walk(2)
	for range 300 {
		low := w.next(mostHigh)
		high := low + 1 + w.next(mostHigh-low)
		many := w.next(mostMany + 1)
		first, second := wantShares(t, math.MinInt, low, high, many, 0, many)
		for free := low - 2; free <= high+2; free++ {
			first, second = wantShares(t, free, low, high, many, first, second)
		}
		first, second = wantShares(t, math.MaxInt, low, high, many, first, second)
		if first != many || second != 0 {
			t.Errorf("with all free: %d, %d of %d", first, second, many)
		}
	}
}

func TestMoreFreeOfGate(t *testing.T) {
	for _, many := range []int{1, 3, 8, mostMany} {
		g := made(t, many)
		first, second := 0, many
		for free := -3; free <= 50; free++ {
			g.Fill(free, 5, 42)
			a, b := g.Left(clients), g.Left(movers)
			if a < first || b > second || a+b != many {
				t.Errorf("with %d free: %d, %d, and %d, %d with less", free, a, b, first, second)
			}
			first, second = a, b
		}
	}
}

// takeAll takes by turns, many times more than there can be: how many of each kind it got.
func takeAll(g *gate.Gate) (int, int) {
	first, second := 0, 0
	for range 3 * mostMany {
		if g.Take(clients) {
			first++
		}
		if g.Take(movers) {
			second++
		}
	}
	return first, second
}

func TestNoMoreThanProvided(t *testing.T) {
	w := walk(3)
	for range 200 {
		many := 1 + w.next(mostMany)
		g := made(t, many)
		for range 3 {
			free, low, high := w.next(60)-5, w.next(30)-1, w.next(60)
			g.Fill(free, low, high)
			// Some are left when the next Fill comes.
			if w.next(3) == 0 {
				g.Take(1 + w.next(2))
				continue
			}
			first, second := model(free, low, high, many)
			if a, b := takeAll(g); a != first || b != second {
				t.Errorf("Fill(%d, %d, %d) of %d: %d and %d were taken, want %d and %d", free, low, high, many, a, b, first, second)
			}
		}
	}
}

// R4

func TestSameCallsSameAnswers(t *testing.T) {
	run := func() []int {
		w := walk(4)
		g := made(t, 100)
		var told []int
		for range 2000 {
			if w.next(20) == 0 {
				g.Fill(w.next(20), w.next(10), w.next(20))
			}
			if g.Take(w.next(4)) {
				told = append(told, 1)
			}
			told = append(told, g.Left(clients), g.Left(movers))
		}
		return told
	}
	first := run()
	for range 5 {
		again := run()
		if len(again) != len(first) {
			t.Fatalf("%d answers, and %d before", len(again), len(first))
		}
		for i := range first {
			if again[i] != first[i] {
				t.Fatalf("answer %d is %d, and was %d before", i, again[i], first[i])
			}
		}
	}
}
