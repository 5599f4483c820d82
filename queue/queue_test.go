package queue_test

import (
	"math"
	"slices"
	"testing"

	"strake/api"
	"strake/queue"
)

// maxChans is the chapter's limit.
const maxChans = 4

// far are numbers beyond all limits, and numbers that would be right if they were cut off.
func far() []int {
	return []int{math.MinInt, math.MinInt + 1, math.MinInt + 2, -1 << 62, 1 - 1<<32, -1 << 32, 1 - 1<<31, -1 << 31, -256, -255, -254, -4, -3, -2, -1, 5, 6, 8, 255, 256, 257, 258, 1<<16 + 1, 1<<31 - 1, 1 << 31, 1<<31 + 1, 1 << 32, 1<<32 + 1, 1<<32 + 3, 1<<40 + 2, 1 << 62, 1<<62 + 1, math.MaxInt - 1, math.MaxInt}
}

// noChannels are those that so many channels don't have.
func noChannels(chans int) []int { return append(far(), chans, chans+1, maxChans, maxChans+1) }

func same(a, b api.Job) bool {
	return a.Kind == b.Kind && a.Line == b.Line && a.Unit == b.Unit && a.Page == b.Page && slices.Equal(a.Pos, b.Pos)
}

// job is one with numbers of its own in each field.
func job(n int) api.Job {
	return api.Job{Kind: 1 + n%3, Line: n % 5, Unit: n + 100, Page: n + 2000, Pos: positions(n, n%4)}
}

// positions are so many new ones.
func positions(first, many int) []int {
	var list []int
	for i := range many {
		list = append(list, first*10+i)
	}
	return list
}

// some are jobs of each kind and of none, with numbers about all edges; several are alike.
func some() []api.Job {
	list := []api.Job{
		{},
		{Kind: api.JobErase, Line: 3},
		{Kind: api.JobHead, Line: 3, Unit: 1, Page: 2, Pos: nil},
		{Kind: api.JobData, Line: 3, Unit: 1, Page: 2, Pos: []int{7, 8, 9}},
		{Kind: api.JobData, Line: 3, Unit: 1, Page: 2, Pos: []int{7, 8, 9}},
		{Kind: api.JobData, Line: 3, Unit: 1, Page: 2, Pos: []int{9, 8, 7}},
		{Kind: api.JobData, Line: 3, Unit: 1, Page: 2, Pos: []int{}},
		{Kind: api.JobErase, Pos: []int{0}},
		{Kind: api.JobErase, Pos: []int{0, 0, 0, -1}},
		{Kind: 4, Line: -1, Unit: -1, Page: -1, Pos: []int{-1}},
		{Line: 3},
		{Unit: 3},
		{Page: 3},
		{Kind: 3},
		{Pos: []int{3}},
		{Kind: math.MinInt, Line: math.MinInt, Unit: math.MinInt, Page: math.MinInt, Pos: []int{math.MinInt, math.MaxInt}},
		{Kind: math.MaxInt, Line: math.MaxInt, Unit: math.MaxInt, Page: math.MaxInt, Pos: []int{math.MaxInt, math.MinInt}},
		{Kind: -1, Line: 1 << 32, Unit: 1 << 31, Page: -1 << 31, Pos: make([]int, 5000)},
		{Kind: 1 << 32, Line: 1<<32 + 3, Unit: 1 << 40, Page: 1 << 62, Pos: positions(6, 300)},
		{},
	}
	return list
}

func fresh(t *testing.T, chans int) *queue.Queues {
	t.Helper()
	q, err := queue.New(chans)
	if err != api.OK || q == nil {
		t.Fatalf("New(%d): %v, %v", chans, q, err)
	}
	return q
}

// model is what the chapter's words say of queues: what was put and not taken is in one list, whatever its channel.
type model struct {
	chans int
	all   []placed
}

type placed struct {
	c int
	j api.Job
}

func (m *model) put(c int, j api.Job) api.Errno {
	if c < 0 || c >= m.chans {
		return api.ErrRange
	}
	j.Pos = slices.Clone(j.Pos)
	m.all = append(m.all, placed{c, j})
	return api.OK
}

// find is where a channel's first job stands; -1: there is none.
func (m *model) find(c int) int {
	return slices.IndexFunc(m.all, func(p placed) bool { return p.c == c })
}

func (m *model) first(c int) (api.Job, bool) {
	i := m.find(c)
	if i < 0 {
		return api.Job{}, false
	}
	return m.all[i].j, true
}

func (m *model) pop(c int) (api.Job, bool) {
	j, is := m.first(c)
	if is {
		i := m.find(c)
		m.all = slices.Delete(m.all, i, i+1)
	}
	return j, is
}

func (m *model) count(is func(p placed) bool) int {
	many := 0
	for _, p := range m.all {
		if is(p) {
			many++
		}
	}
	return many
}

func (m *model) len(c int) int { return m.count(func(p placed) bool { return p.c == c }) }

func (m *model) busy(line int) int { return m.count(func(p placed) bool { return p.j.Line == line }) }

// pair are queues and their model.
type pair struct {
	q *queue.Queues
	m model
}

func freshPair(t *testing.T, chans int) *pair {
	t.Helper()
	return &pair{fresh(t, chans), model{chans: chans}}
}

func (p *pair) put(t *testing.T, c int, j api.Job) {
	t.Helper()
	kept := j
	kept.Pos = slices.Clone(j.Pos)
	if got, want := p.q.Put(c, j), p.m.put(c, kept); got != want {
		t.Errorf("Put(%d, %v): %v, want %v", c, j, got, want)
	}
	if !same(j, kept) {
		t.Errorf("Put changed %v to %v", kept, j)
	}
}

func (p *pair) first(t *testing.T, c int) {
	t.Helper()
	want, wantIs := p.m.first(c)
	if got, is := p.q.First(c); !same(got, want) || is != wantIs {
		t.Errorf("First(%d): %v, %v, want %v, %v", c, got, is, want, wantIs)
	}
}

func (p *pair) pop(t *testing.T, c int) {
	t.Helper()
	want, wantIs := p.m.pop(c)
	if got, is := p.q.Pop(c); !same(got, want) || is != wantIs {
		t.Errorf("Pop(%d): %v, %v, want %v, %v", c, got, is, want, wantIs)
	}
}

// look asks all that can be asked without a change, of channels that there are not as well, and of lines.
func (p *pair) look(t *testing.T, lines ...int) {
	t.Helper()
	for c := -2; c < maxChans+3; c++ {
		if got, want := p.q.Len(c), p.m.len(c); got != want {
			t.Errorf("Len(%d): %d, want %d", c, got, want)
		}
		p.first(t, c)
	}
	for _, line := range lines {
		if got, want := p.q.Busy(line), p.m.busy(line); got != want {
			t.Errorf("Busy(%d): %d, want %d", line, got, want)
		}
	}
}

// walk goes through numbers that look like chance, and are the same each time.
type walk uint64

func (w *walk) next(n int) int {
	*w = *w*6364136223846793005 + 1442695040888963407
	return int(uint64(*w) >> 33 % uint64(n))
}

func wantPut(t *testing.T, q *queue.Queues, c int, j api.Job, want api.Errno) {
	t.Helper()
	if got := q.Put(c, j); got != want {
		t.Errorf("Put(%d, %v): %v, want %v", c, j, got, want)
	}
}

func wantFirst(t *testing.T, q *queue.Queues, c int, want api.Job) {
	t.Helper()
	if got, is := q.First(c); !same(got, want) || !is {
		t.Errorf("First(%d): %v, %v, want %v", c, got, is, want)
	}
}

func wantPop(t *testing.T, q *queue.Queues, c int, want api.Job) {
	t.Helper()
	if got, is := q.Pop(c); !same(got, want) || !is {
		t.Errorf("Pop(%d): %v, %v, want %v", c, got, is, want)
	}
}

func wantNone(t *testing.T, q *queue.Queues, c int) {
	t.Helper()
	if got, is := q.First(c); !same(got, api.Job{}) || is {
		t.Errorf("First(%d): %v, %v, want none", c, got, is)
	}
	if got, is := q.Pop(c); !same(got, api.Job{}) || is {
		t.Errorf("Pop(%d): %v, %v, want none", c, got, is)
	}
	wantLen(t, q, c, 0)
}

func wantLen(t *testing.T, q *queue.Queues, c, want int) {
	t.Helper()
	if got := q.Len(c); got != want {
		t.Errorf("Len(%d): %d, want %d", c, got, want)
	}
}

func wantBusy(t *testing.T, q *queue.Queues, line, want int) {
	t.Helper()
	if got := q.Busy(line); got != want {
		t.Errorf("Busy(%d): %d, want %d", line, got, want)
	}
}

func TestExamples(t *testing.T) {
	q := fresh(t, 2)
	wantPut(t, q, 1, api.Job{Line: 3}, api.OK)
	wantPut(t, q, 1, api.Job{Line: 4}, api.OK)
	wantFirst(t, q, 1, api.Job{Line: 3})
	wantPop(t, q, 1, api.Job{Line: 3})
	wantPop(t, q, 1, api.Job{Line: 4})
	wantNone(t, q, 1)
	wantPut(t, q, 2, api.Job{Line: 3}, api.ErrRange)
}

// P16.1

func TestNew(t *testing.T) {
	for chans := 1; chans <= maxChans; chans++ {
		p := freshPair(t, chans)
		p.look(t, -1, 0, 1)
		for c := range chans {
			wantNone(t, p.q, c)
			p.put(t, c, job(c))
			p.look(t, 0, 1, 2, 3)
		}
	}
}

func TestNewOfWrongNumbers(t *testing.T) {
	for _, chans := range append(far(), 0) {
		if q, err := queue.New(chans); q != nil || err != api.ErrArg {
			t.Errorf("New(%d): %v, %v", chans, q, err)
		}
	}
}

func TestNoSuchChannel(t *testing.T) {
	for chans := 1; chans <= maxChans; chans++ {
		p := freshPair(t, chans)
		for range 2 {
			for _, c := range noChannels(chans) {
				wantPut(t, p.q, c, job(7), api.ErrRange)
				wantPut(t, p.q, c, api.Job{}, api.ErrRange)
				wantNone(t, p.q, c)
			}
			p.look(t, 0, 1, 2)
			// And once more with jobs in all channels that there are.
			for c := range chans {
				p.put(t, c, job(c))
				p.put(t, c, api.Job{Line: 2})
			}
			p.look(t, 0, 1, 2)
		}
	}
}

func TestPutAcceptsEveryJob(t *testing.T) {
	for chans := 1; chans <= maxChans; chans++ {
		for c := range chans {
			p := freshPair(t, chans)
			for _, j := range some() {
				p.put(t, c, j)
				p.look(t, j.Line)
			}
			for _, j := range some() {
				wantFirst(t, p.q, c, j)
				p.pop(t, c)
			}
			wantNone(t, p.q, c)
		}
	}
}

// There is no most: ten thousand jobs for each channel.
func TestManyJobs(t *testing.T) {
	const many = 10000
	q := fresh(t, 4)
	for n := range many {
		for c := range 4 {
			wantPut(t, q, c, job(4*n+c), api.OK)
		}
	}
	for n := range many {
		for c := range 4 {
			wantLen(t, q, c, many-n)
			wantPop(t, q, c, job(4*n+c))
		}
	}
	for c := range 4 {
		wantNone(t, q, c)
	}
}

// P16.2

func TestFirstRemovesNothing(t *testing.T) {
	q := fresh(t, 3)
	wantPut(t, q, 2, job(5), api.OK)
	wantPut(t, q, 2, job(6), api.OK)
	for range 20 {
		wantFirst(t, q, 2, job(5))
		wantLen(t, q, 2, 2)
		wantBusy(t, q, 0, 1)
		wantBusy(t, q, 1, 1)
	}
	wantPop(t, q, 2, job(5))
	wantFirst(t, q, 2, job(6))
	wantFirst(t, q, 2, job(6))
	wantPop(t, q, 2, job(6))
	wantNone(t, q, 2)
}

func TestPopOfEmptyQueue(t *testing.T) {
	for chans := 1; chans <= maxChans; chans++ {
		q := fresh(t, chans)
		for c := range chans {
			for range 3 {
				wantNone(t, q, c)
			}
			wantPut(t, q, c, job(c), api.OK)
			wantLen(t, q, c, 1)
			wantPop(t, q, c, job(c))
			for range 3 {
				wantNone(t, q, c)
			}
		}
	}
}

func TestEmptiedAndFilledAgain(t *testing.T) {
	for many := range 20 {
		p := freshPair(t, 2)
		for round := range 5 {
			for n := range many {
				p.put(t, 1, job(round*many+n))
			}
			p.look(t, 0, 1, 2, 3, 4, 5)
			for range many {
				p.pop(t, 1)
				p.look(t, 0, 1, 2, 3, 4, 5)
			}
			wantNone(t, p.q, 1)
			wantNone(t, p.q, 0)
		}
	}
}

func TestLenAheadOfAndBehindEachCall(t *testing.T) {
	q := fresh(t, 2)
	wantLen(t, q, 0, 0)
	wantPut(t, q, 0, job(1), api.OK)
	wantLen(t, q, 0, 1)
	wantPut(t, q, 0, job(2), api.OK)
	wantLen(t, q, 0, 2)
	wantLen(t, q, 1, 0)
	wantPut(t, q, 2, job(3), api.ErrRange)
	wantPut(t, q, -1, job(3), api.ErrRange)
	wantLen(t, q, 0, 2)
	wantLen(t, q, 1, 0)
	q.First(0)
	q.First(1)
	wantLen(t, q, 0, 2)
	q.Pop(1)
	wantLen(t, q, 0, 2)
	wantLen(t, q, 1, 0)
	q.Pop(0)
	wantLen(t, q, 0, 1)
	q.Busy(1)
	wantLen(t, q, 0, 1)
	q.Pop(0)
	wantLen(t, q, 0, 0)
	q.Pop(0)
	wantLen(t, q, 0, 0)
}

func TestBusyAheadOfAndBehindEachCall(t *testing.T) {
	q := fresh(t, 4)
	wantBusy(t, q, 3, 0)
	for c := range 4 {
		wantPut(t, q, c, api.Job{Line: 3}, api.OK)
		wantBusy(t, q, 3, c+1)
		wantPut(t, q, c, api.Job{Line: -3}, api.OK)
		wantBusy(t, q, 3, c+1)
		wantBusy(t, q, -3, c+1)
	}
	wantPut(t, q, 4, api.Job{Line: 3}, api.ErrRange)
	wantPut(t, q, -1, api.Job{Line: 3}, api.ErrRange)
	wantBusy(t, q, 3, 4)
	for c := range 4 {
		q.First(c)
		wantBusy(t, q, 3, 4-c)
		q.Pop(c)
		wantBusy(t, q, 3, 3-c)
		wantBusy(t, q, -3, 4)
	}
	for c := range 4 {
		q.Pop(c)
		wantBusy(t, q, -3, 3-c)
		q.Pop(c)
		wantBusy(t, q, -3, 3-c)
	}
}

// No other number of a job counts, and no other line.
func TestBusyCountsLinesAlone(t *testing.T) {
	q := fresh(t, 2)
	for c := range 2 {
		wantPut(t, q, c, api.Job{Kind: 3, Line: 7, Unit: 3, Page: 3, Pos: []int{3, 3}}, api.OK)
	}
	wantBusy(t, q, 3, 0)
	wantBusy(t, q, 7, 2)
	for _, n := range append(far(), 0, 1, 6) {
		wantBusy(t, q, n, 0)
		wantBusy(t, q, 7, 2)
	}
}

func TestBusyOfFarLines(t *testing.T) {
	for _, line := range append(far(), 0, 1, 2) {
		p := freshPair(t, 3)
		for _, c := range []int{0, 2, 2} {
			p.put(t, c, api.Job{Kind: api.JobErase, Line: line})
			p.put(t, c, api.Job{Kind: api.JobErase, Line: 77})
		}
		p.look(t, append(far(), 0, 1, 2, 77)...)
		wantBusy(t, p.q, line, 3)
		p.pop(t, 2)
		p.pop(t, 1)
		wantBusy(t, p.q, line, 2)
		wantBusy(t, p.q, 77, 3)
	}
}

// Of a line all kinds of jobs count, and those that are alike each for itself.
func TestBusyOfJobsThatAreAlike(t *testing.T) {
	q := fresh(t, 2)
	alike := api.Job{Kind: api.JobData, Line: 9, Unit: 1, Page: 4, Pos: []int{1, 2}}
	for n := range 30 {
		wantPut(t, q, n%2, alike, api.OK)
		wantBusy(t, q, 9, n+1)
	}
	for _, kind := range append(far(), 0, 1, 2, 3) {
		wantPut(t, q, 0, api.Job{Kind: kind, Line: 9}, api.OK)
	}
	wantBusy(t, q, 9, 34+len(far()))
	for n := range 30 {
		wantPop(t, q, n%2, alike)
		wantBusy(t, q, 9, 33-n+len(far()))
	}
}

// P16.3

// orders are all rows of so many numbers below top, each given to a function.
func orders(many, top int, give func(row []int)) {
	row := make([]int, many)
	for {
		give(row)
		i := 0
		for i < many && row[i] == top-1 {
			row[i] = 0
			i++
		}
		if i == many {
			return
		}
		row[i]++
	}
}

// A row's number says which channel is meant, and whether to put or to pop; the last two mean channels that there are not.
func TestAllOrders(t *testing.T) {
	for _, o := range []struct{ chans, many int }{{1, 8}, {2, 5}, {3, 4}, {4, 4}} {
		orders(o.many, 2*o.chans+2, func(row []int) {
			p := freshPair(t, o.chans)
			for i, n := range row {
				if c := n / 2; n%2 == 0 {
					p.put(t, c, job(i))
				} else {
					p.pop(t, c)
				}
			}
			p.look(t, 0, 1, 2, 3, 4, 5)
			for c := range o.chans {
				for range o.many + 1 {
					p.pop(t, c)
				}
				wantNone(t, p.q, c)
			}
		})
	}
}

// What happens in other channels, be it much or nothing, is not seen in one.
func TestOtherChannels(t *testing.T) {
	w := walk(3)
	for one := range 4 {
		alone, among := fresh(t, 4), fresh(t, 4)
		for n := range 2000 {
			for range w.next(4) {
				other := (one + 1 + w.next(3)) % 4
				if w.next(2) == 0 {
					wantPut(t, among, other, job(n), api.OK)
				} else {
					among.Pop(other)
				}
			}
			if w.next(2) == 0 {
				wantPut(t, alone, one, job(n), api.OK)
				wantPut(t, among, one, job(n), api.OK)
			} else {
				a, isA := alone.Pop(one)
				b, isB := among.Pop(one)
				if !same(a, b) || isA != isB {
					t.Errorf("Pop(%d): %v, %v, and alone %v, %v", one, b, isB, a, isA)
				}
			}
			wantLen(t, among, one, alone.Len(one))
		}
	}
}

func TestFilledOneByOneAndEmptiedInEveryOrder(t *testing.T) {
	orders(4, 4, func(row []int) {
		p := freshPair(t, 4)
		for _, c := range []int{2, 0, 3, 1} {
			for n := range c + 2 {
				p.put(t, c, job(10*c+n))
			}
		}
		for _, c := range row {
			for p.m.len(c) > 0 {
				p.pop(t, c)
			}
			p.look(t, 0, 1, 2, 3, 4)
		}
	})
}

// Jobs are put and taken in turns, so that a queue never is empty, for long; all the while what comes out is what came in.
func TestLongTurns(t *testing.T) {
	for _, waiting := range []int{0, 1, 2, 3, 7, 64, 1000} {
		q := fresh(t, 2)
		for n := range waiting {
			wantPut(t, q, 1, job(n), api.OK)
		}
		for n := range 20000 {
			wantPut(t, q, 1, job(waiting+n), api.OK)
			wantFirst(t, q, 1, job(n))
			wantPop(t, q, 1, job(n))
			wantLen(t, q, 1, waiting)
			wantNone(t, q, 0)
		}
		for n := range waiting {
			wantPop(t, q, 1, job(20000+n))
		}
		wantNone(t, q, 1)
		wantBusy(t, q, 0, 0)
	}
}

// Several queues are asked by turns, each against a model of its own.
func TestLongRuns(t *testing.T) {
	w := walk(1)
	list := some()
	for _, chans := range []int{1, 2, 3, 4} {
		pairs := []*pair{freshPair(t, chans), freshPair(t, chans), freshPair(t, 2)}
		for n := range 3000 {
			p := pairs[w.next(len(pairs))]
			c := w.next(chans+2) - 1
			// Now there is more put than taken, now less.
			if w.next(10) < 3+n/500%2*4 {
				p.put(t, c, list[w.next(len(list))])
			} else {
				p.pop(t, c)
			}
			p.look(t, 0, 3, -1, w.next(7))
		}
	}
}

func TestTwoQueuesShareNothing(t *testing.T) {
	a, b := freshPair(t, 2), freshPair(t, 2)
	a.put(t, 0, job(1))
	a.put(t, 1, job(2))
	b.look(t, 0, 1, 2)
	b.put(t, 1, job(3))
	b.pop(t, 0)
	a.look(t, 1, 2, 3)
	a.pop(t, 1)
	a.pop(t, 1)
	b.look(t, 1, 2, 3)
	b.pop(t, 1)
	a.look(t, 1, 2, 3)
	// The same positions lie in both.
	pos := []int{1, 2, 3}
	a.put(t, 0, api.Job{Pos: pos})
	b.put(t, 0, api.Job{Pos: pos})
	a.pop(t, 0)
	j, _ := a.q.First(0)
	j.Pos[1] = 99
	a.look(t, 0)
	b.look(t, 0)
}

// R3

func TestPositionsChangedBehindPut(t *testing.T) {
	q := fresh(t, 2)
	pos := []int{1, 2, 3, 4, 5}
	j := api.Job{Kind: api.JobData, Line: 1, Pos: pos[:3]}
	for c := range 2 {
		wantPut(t, q, c, j, api.OK)
		wantPut(t, q, c, j, api.OK)
	}
	if !slices.Equal(pos, []int{1, 2, 3, 4, 5}) {
		t.Errorf("Put changed the positions to %v", pos)
	}
	clear(pos)
	_ = append(j.Pos, 7)
	want := api.Job{Kind: api.JobData, Line: 1, Pos: []int{1, 2, 3}}
	for c := range 2 {
		wantFirst(t, q, c, want)
		wantPop(t, q, c, want)
		wantPop(t, q, c, want)
	}
}

// scribble changes all that a job's positions reach.
func scribble(j api.Job) {
	all := j.Pos[:cap(j.Pos)]
	for i := range all {
		all[i] = -99
	}
	_ = append(j.Pos, -98, -97)
}

func TestPositionsChangedBehindFirst(t *testing.T) {
	p := freshPair(t, 2)
	for n := range 12 {
		p.put(t, n%2, job(n))
	}
	for range 12 {
		for c := range 2 {
			for range 2 {
				j, _ := p.q.First(c)
				scribble(j)
			}
			p.look(t, 0, 1, 2, 3, 4)
			p.pop(t, c)
		}
	}
}

func TestPositionsChangedBehindPop(t *testing.T) {
	p := freshPair(t, 2)
	for n := range 40 {
		p.put(t, n%2, job(n))
		p.put(t, n%2, job(n+1))
		j, _ := p.q.Pop(n % 2)
		scribble(j)
		p.m.pop(n % 2)
		p.look(t, 0, 1, 2, 3, 4)
	}
	for range 20 {
		p.pop(t, 0)
		p.pop(t, 1)
	}
}

// What was answered is the caller's: no later call changes it.
func TestAnswersStay(t *testing.T) {
	q := fresh(t, 1)
	want := job(7)
	wantPut(t, q, 0, want, api.OK)
	first, _ := q.First(0)
	second, _ := q.First(0)
	last, _ := q.Pop(0)
	for n := range 50 {
		wantPut(t, q, 0, job(n+8), api.OK)
	}
	for range 50 {
		j, _ := q.Pop(0)
		scribble(j)
	}
	for _, j := range []api.Job{first, second, last} {
		if !same(j, want) {
			t.Errorf("an answer changed to %v", j)
		}
		scribble(j)
	}
	wantNone(t, q, 0)
}

func TestAnswersShareNothingWithOneAnother(t *testing.T) {
	q := fresh(t, 1)
	want := api.Job{Line: 2, Pos: []int{4, 5, 6}}
	wantPut(t, q, 0, want, api.OK)
	a, _ := q.First(0)
	b, _ := q.First(0)
	scribble(a)
	if !same(b, want) {
		t.Errorf("an answer changed to %v", b)
	}
	c, _ := q.Pop(0)
	scribble(b)
	if !same(c, want) {
		t.Errorf("an answer changed to %v", c)
	}
}

// A job that was taken may be put again, as it came.
func TestJobsPutAgain(t *testing.T) {
	p := freshPair(t, 3)
	for n, j := range some() {
		p.put(t, n%3, j)
	}
	for n := range 200 {
		c := n % 3
		j, is := p.q.Pop(c)
		if !is {
			t.Fatalf("Pop(%d): none", c)
		}
		p.m.pop(c)
		p.put(t, (c+1)%3, j)
		scribble(j)
		p.look(t, 0, 3, -1)
	}
}

// R4

func TestSameCallsSameAnswers(t *testing.T) {
	run := func() []int {
		w := walk(4)
		q := fresh(t, 3)
		var told []int
		for n := range 2000 {
			c := w.next(5) - 1
			switch w.next(3) {
			case 0:
				told = append(told, int(q.Put(c, job(n))))
			case 1:
				j, _ := q.Pop(c)
				told = append(append(told, j.Unit, j.Line, j.Page, j.Kind), j.Pos...)
			case 2:
				told = append(told, q.Len(c), q.Busy(w.next(5)))
			}
		}
		return told
	}
	first := run()
	for range 5 {
		if !slices.Equal(run(), first) {
			t.Fatal("the same calls had other answers")
		}
	}
}
