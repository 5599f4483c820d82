package victim_test

import (
	"math"
	"slices"
	"testing"

	"strake/api"
	"strake/victim"
)

// most is the greatest Room of a line that may be collected.
const most = 8192

// closed is a closed line with so many valid sectors of so many.
func closed(valid, room, wear int) api.Line {
	return api.Line{State: api.Closed, Wear: wear, Good: 2, Valid: valid, Room: room}
}

// inState is a line that could be collected, but for its state.
func inState(state int) api.Line {
	return api.Line{State: state, Good: 2, Valid: 3, Room: 8}
}

// example are the lines of the chapter's example.
func example() []api.Line {
	return []api.Line{
		{State: api.Closed, Valid: 3, Room: 8},
		{State: api.Closed, Valid: 1, Room: 8, Wear: 5},
		{State: api.Closed, Valid: 1, Room: 8, Wear: 4},
		{State: api.Free},
	}
}

// far are numbers beyond all lines, and numbers that would be right if they were cut off.
func far() []int {
	return []int{-1, -2, -3, -64, -most, most + 1, 1 << 31, 1<<31 + 1, -1 << 31, 1 << 32, 1<<32 + 1, 1<<32 + 2, 1<<32 + 8, -1 << 32, 1 << 40, 1 << 62, -1 << 62, math.MaxInt - 1, math.MaxInt, math.MinInt, math.MinInt + 1}
}

// refused are lines that aren't collectable.
func refused() []api.Line {
	list := []api.Line{
		{}, inState(api.Free), inState(api.Open), inState(api.Dead),
		closed(-1, 8, 0), closed(8, 8, 0), closed(9, 8, 0), closed(0, 0, 0), closed(1, 1, 0),
		closed(0, -1, 0), closed(-1, -1, 0), closed(-1, 0, 0), closed(-2, -1, 0),
		closed(0, most+1, 0), closed(most, most, 0), closed(most, most+1, 0),
		closed(math.MinInt, math.MinInt, 0), closed(math.MinInt, math.MaxInt, 0), closed(math.MaxInt, math.MinInt, 0),
	}
	for _, n := range far() {
		list = append(list, inState(n), closed(0, n, 0), closed(n, 8, 0))
	}
	return list
}

// isRight tells by the chapter's words whether a line is collectable.
func isRight(l api.Line) bool {
	switch {
	case l.State != api.Closed:
		return false
	case l.Valid < 0:
		return false
	case l.Valid >= l.Room:
		return false
	}
	return l.Room <= 8192
}

// isBetter tells by the chapter's words whether line i is better than line j.
func isBetter(l []api.Line, i, j int) bool {
	if l[i].Valid != l[j].Valid {
		return l[i].Valid < l[j].Valid
	}
	if l[i].Wear != l[j].Wear {
		return l[i].Wear < l[j].Wear
	}
	return i < j
}

// model takes again and again the best line that is left.
func model(l []api.Line) []int {
	var order []int
	for {
		best := -1
		for i := range l {
			if isRight(l[i]) && !slices.Contains(order, i) && (best < 0 || isBetter(l, i, best)) {
				best = i
			}
		}
		if best < 0 {
			return order
		}
		order = append(order, best)
	}
}

// wantOrder holds what lines are answered against the order that is to be.
func wantOrder(t *testing.T, l []api.Line, want ...int) {
	t.Helper()
	if got := victim.Order(l); !slices.Equal(got, want) {
		t.Errorf("Order(%+v): %v, want %v", l, got, want)
	}
	n, is := victim.Pick(l)
	if len(want) == 0 && (n != 0 || is) {
		t.Errorf("Pick(%+v): %d, %v, want none", l, n, is)
	}
	if len(want) > 0 && (n != want[0] || !is) {
		t.Errorf("Pick(%+v): %d, %v, want %d", l, n, is, want[0])
	}
}

func wantGain(t *testing.T, l []api.Line, i, want int) {
	t.Helper()
	if got := victim.Gain(l, i); got != want {
		t.Errorf("Gain(%+v, %d): %d, want %d", l, i, got, want)
	}
}

// wantModel holds all that lines are answered against the model.
func wantModel(t *testing.T, l []api.Line) {
	t.Helper()
	wantOrder(t, l, model(l)...)
	for i, line := range l {
		gain := 0
		if isRight(line) {
			gain = line.Room - line.Valid
		}
		wantGain(t, l, i, gain)
	}
	wantGain(t, l, -1, 0)
	wantGain(t, l, len(l), 0)
}

// walk are numbers that look like chance, and are the same each time.
type walk uint64

func (w *walk) next(n int) int {
	*w = *w*6364136223846793005 + 1442695040888963407
	return int(uint64(*w) >> 33 % uint64(n))
}

// line is one of few kinds, so that lines are often equal.
func (w *walk) line() api.Line {
	rooms := []int{-1, 0, 1, 2, 3, 4, 4, 4, most, most + 1}
	states := []int{api.Closed, api.Closed, api.Closed, api.Closed, api.Free, api.Open, api.Dead, 4, -1}
	return api.Line{
		State: states[w.next(len(states))],
		Wear:  w.next(4) - 1,
		Good:  w.next(3),
		Valid: w.next(6) - 1,
		Room:  rooms[w.next(len(rooms))],
	}
}

func (w *walk) lines(many int) []api.Line {
	l := make([]api.Line, many)
	for i := range l {
		l[i] = w.line()
	}
	return l
}

// rows calls with all rows of so many lines of a list.
func rows(list []api.Line, many int, do func(l []api.Line)) {
	var grow func(l []api.Line)
	grow = func(l []api.Line) {
		if len(l) == many {
			do(slices.Clone(l))
			return
		}
		for _, line := range list {
			grow(append(l, line))
		}
	}
	grow(nil)
}

// orders calls with lines in every order.
func orders(l []api.Line, do func(l []api.Line)) {
	var grow func(got, left []api.Line)
	grow = func(got, left []api.Line) {
		if len(left) == 0 {
			do(slices.Clone(got))
			return
		}
		for i := range left {
			grow(append(slices.Clone(got), left[i]), slices.Delete(slices.Clone(left), i, i+1))
		}
	}
	grow(nil, l)
}

// P13.1

func TestExamples(t *testing.T) {
	wantOrder(t, example(), 2, 1, 0)
	wantOrder(t, []api.Line{closed(8, 8, 0)})
	wantOrder(t, append(example(), closed(8, 8, 0)), 2, 1, 0)
}

func TestNoLine(t *testing.T) {
	wantOrder(t, nil)
	wantOrder(t, []api.Line{})
}

func TestNoneIsCollectable(t *testing.T) {
	for _, line := range refused() {
		wantOrder(t, []api.Line{line})
	}
	wantOrder(t, refused())
}

func TestOneAloneIsCollectable(t *testing.T) {
	wantOrder(t, []api.Line{closed(3, 8, 5)}, 0)
	none := refused()
	for i := range len(none) + 1 {
		l := slices.Insert(slices.Clone(none), i, closed(3, 8, 5))
		wantOrder(t, l, i)
	}
}

func TestStates(t *testing.T) {
	for _, state := range []int{-1, api.Free, api.Open, api.Closed, api.Dead, 4} {
		if state == api.Closed {
			wantOrder(t, []api.Line{inState(state)}, 0)
			continue
		}
		wantOrder(t, []api.Line{inState(state)})
		wantOrder(t, []api.Line{inState(state), inState(api.Closed), inState(state)}, 1)
	}
}

func TestValidOfRoom(t *testing.T) {
	for _, room := range []int{1, 2, 8, most} {
		for _, valid := range []int{0, room - 1} {
			wantOrder(t, []api.Line{closed(valid, room, 0)}, 0)
		}
		for _, valid := range append(far(), -1, room, room+1) {
			if valid < 0 || valid >= room {
				wantOrder(t, []api.Line{closed(valid, room, 0)})
			}
		}
	}
}

func TestRoom(t *testing.T) {
	for _, room := range append(far(), -1, 0, most+1) {
		for _, valid := range []int{-1, 0, 1} {
			wantOrder(t, []api.Line{closed(valid, room, 0)})
		}
	}
	for _, room := range []int{1, most - 1, most} {
		wantOrder(t, []api.Line{closed(0, room, 0)}, 0)
	}
}

// A collectable line doesn't need a good block, and may be worn beyond all limits.
func TestWhatDoesNotCount(t *testing.T) {
	for _, n := range append(far(), 0, 1, 8) {
		wantOrder(t, []api.Line{{State: api.Closed, Good: n, Valid: 1, Room: 2}}, 0)
		wantOrder(t, []api.Line{closed(1, 2, n)}, 0)
	}
	wantOrder(t, []api.Line{
		{State: api.Closed, Good: 7, Valid: 1, Room: 8},
		{State: api.Closed, Good: 1, Valid: 1, Room: 8},
	}, 0, 1)
}

func TestLessValidIsBetter(t *testing.T) {
	wantOrder(t, []api.Line{closed(3, 8, 0), closed(2, 8, 0), closed(0, 8, 0), closed(1, 8, 0)}, 2, 3, 1, 0)
	wantOrder(t, []api.Line{closed(10, 16, 0), closed(9, 16, 0)}, 1, 0)
	wantOrder(t, []api.Line{closed(most-1, most, 0), closed(0, most, 0)}, 1, 0)
}

// The line with less Valid is better even if it gives back less, or was erased more often.
func TestValidComesFirst(t *testing.T) {
	wantOrder(t, []api.Line{closed(2, most, 0), closed(1, 2, 0)}, 1, 0)
	wantOrder(t, []api.Line{closed(2, 8, 0), closed(1, 8, api.MaxWear)}, 1, 0)
	wantOrder(t, []api.Line{closed(2, 8, math.MinInt), closed(1, 8, math.MaxInt)}, 1, 0)
}

func TestLessWearIsBetter(t *testing.T) {
	wantOrder(t, []api.Line{closed(1, 8, 5), closed(1, 8, 4), closed(1, 8, 6)}, 1, 0, 2)
	wantOrder(t, []api.Line{closed(1, 8, 10), closed(1, 8, 9)}, 1, 0)
	wantOrder(t, []api.Line{closed(1, most, 5), closed(1, 2, 4)}, 1, 0)
}

func TestAnyWear(t *testing.T) {
	wears := []int{math.MaxInt, 1 << 32, api.MaxWear, 1, 0, -1, -2, -1 << 32, math.MinInt + 1, math.MinInt}
	var l []api.Line
	var want []int
	for i, wear := range wears {
		l = append(l, closed(1, 8, wear))
		want = append(want, len(wears)-1-i)
	}
	wantOrder(t, l, want...)
	wantOrder(t, []api.Line{closed(1, 8, math.MaxInt), closed(1, 8, math.MinInt)}, 1, 0)
	wantOrder(t, []api.Line{closed(1, 8, math.MinInt), closed(1, 8, math.MaxInt)}, 0, 1)
	wantOrder(t, []api.Line{closed(1, 8, 1<<32), closed(1, 8, 1)}, 1, 0)
}

func TestLessIndexIsBetter(t *testing.T) {
	wantOrder(t, []api.Line{closed(1, 8, 4), closed(1, 8, 4)}, 0, 1)
	wantOrder(t, []api.Line{{}, closed(1, 9, 4), closed(1, 8, 4), closed(1, 10, 4)}, 1, 2, 3)
	var want []int
	for i := range 300 {
		want = append(want, i)
	}
	wantOrder(t, slices.Repeat([]api.Line{closed(5, 8, 4)}, 300), want...)
}

// Each of the lines may be collected, and differs from each other one in one property at most.
func TestAllShortRows(t *testing.T) {
	list := []api.Line{closed(0, 8, 1), closed(0, 8, 0), closed(1, 8, 0), closed(1, 9, 0), closed(8, 8, 0), inState(api.Open)}
	for many := range 6 {
		rows(list, many, func(l []api.Line) { wantModel(t, l) })
	}
}

func TestManyLines(t *testing.T) {
	w := walk(1)
	for many := range 40 {
		for range 60 {
			wantModel(t, w.lines(many))
		}
	}
	for _, many := range []int{64, 65, 257, 1000} {
		wantModel(t, w.lines(many))
	}
}

// P13.2

func TestGainExamples(t *testing.T) {
	wantGain(t, example(), 2, 7)
	wantGain(t, example(), 0, 5)
	wantGain(t, example(), 3, 0)
}

func TestGainOfNoLine(t *testing.T) {
	for _, n := range append(far(), 4, 5) {
		wantGain(t, example(), n, 0)
	}
	for _, n := range append(far(), 0, 1) {
		wantGain(t, nil, n, 0)
		wantGain(t, []api.Line{}, n, 0)
	}
	// What stands behind the last line isn't one.
	l := append(example(), closed(1, 8, 0))
	wantGain(t, l[:4], 4, 0)
	wantGain(t, l[1:], -1, 0)
}

func TestGainOfFirstAndLast(t *testing.T) {
	l := []api.Line{closed(2, 8, 0), closed(3, 8, 0), closed(5, 8, 0)}
	wantGain(t, l, 0, 6)
	wantGain(t, l, 1, 5)
	wantGain(t, l, 2, 3)
	wantGain(t, l, 3, 0)
	wantGain(t, l, -1, 0)
}

func TestGainOfLineThatIsNotCollectable(t *testing.T) {
	for i := range refused() {
		wantGain(t, refused(), i, 0)
	}
}

func TestGainEdges(t *testing.T) {
	for _, room := range []int{1, 2, 8, most - 1, most} {
		wantGain(t, []api.Line{closed(0, room, 9)}, 0, room)
		wantGain(t, []api.Line{closed(room-1, room, 9)}, 0, 1)
		wantGain(t, []api.Line{closed(room, room, 9)}, 0, 0)
		wantGain(t, []api.Line{closed(room+1, room, 9)}, 0, 0)
		wantGain(t, []api.Line{closed(-1, room, 9)}, 0, 0)
	}
	wantGain(t, []api.Line{closed(0, most+1, 9)}, 0, 0)
	for _, wear := range far() {
		wantGain(t, []api.Line{closed(1, 8, wear)}, 0, 7)
	}
}

// Just the lines that are in the order give something back.
func TestGainOfOrder(t *testing.T) {
	w := walk(2)
	for range 500 {
		l := w.lines(20)
		order := victim.Order(l)
		for i := range l {
			if got := victim.Gain(l, i) > 0; got != slices.Contains(order, i) {
				t.Errorf("Gain(%+v, %d) > 0: %v", l, i, got)
			}
		}
	}
}

// P13.3

func TestNoLineHasFewerValid(t *testing.T) {
	w := walk(3)
	for range 2000 {
		l := w.lines(1 + w.next(12))
		n, is := victim.Pick(l)
		for i := range l {
			if isRight(l[i]) && (!is || l[i].Valid < l[n].Valid) {
				t.Errorf("Pick(%+v): %d, %v, but line %d has fewer valid sectors", l, n, is, i)
			}
		}
		if is && !isRight(l[n]) {
			t.Errorf("Pick(%+v): %d, which isn't collectable", l, n)
		}
	}
}

// quality are the properties of the line that is picked which don't hang on where it stands.
func quality(l []api.Line) (valid, wear int, is bool) {
	n, is := victim.Pick(l)
	if !is {
		return 0, 0, false
	}
	return l[n].Valid, l[n].Wear, true
}

func TestEveryOrderOfLines(t *testing.T) {
	sets := [][]api.Line{
		append(example(), closed(8, 8, 0)),
		{closed(1, 8, 3), closed(1, 9, 3), closed(1, 8, -1), closed(2, 8, -5), inState(api.Open), closed(-1, 8, 0)},
		{closed(1, 8, 3), closed(1, 9, 3), closed(1, 10, 3), closed(1, 8, 3)},
		{inState(api.Dead), inState(api.Open), closed(8, 8, 0)},
	}
	for _, set := range sets {
		valid, wear, is := quality(set)
		orders(set, func(l []api.Line) {
			if v, w, i := quality(l); v != valid || w != wear || i != is {
				t.Errorf("Pick(%+v): valid %d, wear %d, %v, want %d, %d, %v", l, v, w, i, valid, wear, is)
			}
			wantModel(t, l)
		})
	}
}

func TestOneMoreThatIsNotCollectable(t *testing.T) {
	w := walk(4)
	for range 100 {
		l := w.lines(w.next(10))
		order := victim.Order(l)
		for _, more := range refused() {
			wantOrder(t, append(slices.Clone(l), more), order...)
			wantOrder(t, append(slices.Clone(l), more, more), order...)
		}
	}
}

// R3, R4

func TestLinesStayAsTheyAre(t *testing.T) {
	w := walk(5)
	for range 200 {
		l := w.lines(w.next(30))
		before := slices.Clone(l)
		victim.Order(l)
		victim.Pick(l)
		for i := range l {
			victim.Gain(l, i)
		}
		if !slices.Equal(l, before) {
			t.Fatalf("the lines %+v became %+v", before, l)
		}
	}
}

func TestOrderIsTheCallers(t *testing.T) {
	l := example()
	first := victim.Order(l)
	second := victim.Order(l)
	clear(first[:cap(first)])
	if !slices.Equal(second, []int{2, 1, 0}) {
		t.Errorf("an answer became %v", second)
	}
	wantOrder(t, l, 2, 1, 0)
	clear(l)
	if !slices.Equal(second, []int{2, 1, 0}) {
		t.Errorf("an answer became %v", second)
	}
}

func TestSameCallsSameAnswers(t *testing.T) {
	w := walk(6)
	l, other := w.lines(50), w.lines(50)
	order := victim.Order(l)
	for range 20 {
		victim.Order(other)
		victim.Pick(other)
		wantOrder(t, l, order...)
		wantOrder(t, slices.Clone(l), order...)
	}
}
