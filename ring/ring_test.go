package ring_test

import (
	"bytes"
	"math"
	"slices"
	"testing"

	"strake/api"
	"strake/ring"
)

func fresh(t *testing.T, size int) *ring.Ring {
	t.Helper()
	r, err := ring.New(size)
	if err != api.OK || r == nil {
		t.Fatalf("New(%d): %v, %v", size, r, err)
	}
	return r
}

// filled is a ring with so many slots of clients: that at position p has the sector 10 + p.
func filled(t *testing.T, size, many int) *ring.Ring {
	t.Helper()
	r := fresh(t, size)
	for pos := range many {
		wantPut(t, r, client(10+pos), pos)
	}
	return r
}

func client(lba int) api.Slot {
	return api.Slot{Kind: api.Data, Lba: lba, Stamp: lba + 1000, Data: bytesOf(lba), From: -1}
}

func bytesOf(seed int) []byte {
	b := make([]byte, api.SectorSize)
	for i := range b {
		b[i] = byte(seed*7 + i)
	}
	return b
}

func same(a, b api.Slot) bool {
	return a.Kind == b.Kind && a.Lba == b.Lba && a.Stamp == b.Stamp && a.From == b.From && bytes.Equal(a.Data, b.Data)
}

// far are positions that no ring of these tests has.
func far() []int {
	return []int{-1, -2, -256, 1 << 31, 1<<31 - 1, -1 << 31, 1 << 32, -1 << 32, 1<<32 + 1, 1 << 62, -1 << 62, math.MaxInt - 1, math.MaxInt, math.MinInt, math.MinInt + 1}
}

func wantPut(t *testing.T, r *ring.Ring, s api.Slot, pos int) {
	t.Helper()
	if got, err := r.Put(s); got != pos || err != api.OK {
		t.Fatalf("Put(%v): %d, %v, want %d", s, got, err, pos)
	}
}

func wantFull(t *testing.T, r *ring.Ring) {
	t.Helper()
	before := seen(r)
	if pos, err := r.Put(client(7777)); pos != 0 || err != api.ErrFull {
		t.Errorf("Put into a full ring: %d, %v", pos, err)
	}
	if now := seen(r); now != before {
		t.Errorf("a refused Put changed %v to %v", before, now)
	}
	if pos, is := r.Find(7777); is {
		t.Errorf("a refused slot was found at %d", pos)
	}
}

func wantTake(t *testing.T, r *ring.Ring, n int, want ...int) {
	t.Helper()
	if got := r.Take(n); !slices.Equal(got, want) {
		t.Errorf("Take(%d): %v, want %v", n, got, want)
	}
}

func wantErr(t *testing.T, what string, pos int, got, want api.Errno) {
	t.Helper()
	if got != want {
		t.Errorf("%s(%d): %v, want %v", what, pos, got, want)
	}
}

func wantDone(t *testing.T, r *ring.Ring, pos int, want api.Errno) {
	t.Helper()
	wantErr(t, "Done", pos, r.Done(pos), want)
}

func wantBack(t *testing.T, r *ring.Ring, pos int, want api.Errno) {
	t.Helper()
	wantErr(t, "Back", pos, r.Back(pos), want)
}

func wantGet(t *testing.T, r *ring.Ring, pos int, want api.Slot) {
	t.Helper()
	if got, err := r.Get(pos); err != api.OK || !same(got, want) {
		t.Errorf("Get(%d): %v, %v, want %v", pos, got, err, want)
	}
}

func wantFind(t *testing.T, r *ring.Ring, lba, pos int) {
	t.Helper()
	if got, is := r.Find(lba); got != pos || !is {
		t.Errorf("Find(%d): %d, %v, want %d", lba, got, is, pos)
	}
}

func wantNoFind(t *testing.T, r *ring.Ring, lba int) {
	t.Helper()
	if got, is := r.Find(lba); got != 0 || is {
		t.Errorf("Find(%d): %d, %v, want none", lba, got, is)
	}
}

// wantNone tells that there is no slot at a position, and that asking for it changes nothing.
func wantNone(t *testing.T, r *ring.Ring, pos int) {
	t.Helper()
	before := seen(r)
	wantDone(t, r, pos, api.ErrNone)
	wantBack(t, r, pos, api.ErrNone)
	if got, err := r.Get(pos); err != api.ErrNone || !same(got, api.Slot{}) {
		t.Errorf("Get(%d): %v, %v, want nothing", pos, got, err)
	}
	if now := seen(r); now != before {
		t.Errorf("position %d: %v changed to %v", pos, before, now)
	}
}

// wantRefused tells that a slot is there, but neither Done nor Back may be, and that nothing is changed by them.
func wantRefused(t *testing.T, r *ring.Ring, pos int) {
	t.Helper()
	before := seen(r)
	wantDone(t, r, pos, api.ErrState)
	wantBack(t, r, pos, api.ErrState)
	if now := seen(r); now != before {
		t.Errorf("position %d: %v changed to %v", pos, before, now)
	}
}

// counts are what a ring tells of itself.
type counts struct{ head, tail, waiting, free int }

func seen(r *ring.Ring) counts {
	return counts{r.Head(), r.Tail(), r.Waiting(), r.Free()}
}

func wantCounts(t *testing.T, r *ring.Ring, head, tail, waiting, free int) {
	t.Helper()
	if got, want := seen(r), (counts{head, tail, waiting, free}); got != want {
		t.Errorf("head, tail, waiting, free: %v, want %v", got, want)
	}
}

func TestExamples(t *testing.T) {
	r := filled(t, 2, 2)
	wantFull(t, r)
	wantTake(t, r, 9, 0, 1)
	wantDone(t, r, 1, api.OK)
	wantCounts(t, r, 2, 0, 0, 0)
	wantDone(t, r, 0, api.OK)
	wantCounts(t, r, 2, 2, 0, 2)
	wantDone(t, r, 0, api.ErrNone)

	wantPut(t, r, client(3), 2)
	wantPut(t, r, client(4), 3)
	wantTake(t, r, 1, 2)
	wantBack(t, r, 2, api.OK)
	wantTake(t, r, 1, 2)
}

func TestNew(t *testing.T) {
	for _, size := range append(far(), 0, 257, 258, 512) {
		if r, err := ring.New(size); r != nil || err != api.ErrArg {
			t.Errorf("New(%d): %v, %v", size, r, err)
		}
	}
	for size := 1; size <= api.MaxRing; size++ {
		r := fresh(t, size)
		wantCounts(t, r, 0, 0, 0, size)
	}
}

func TestRingWithoutSlots(t *testing.T) {
	for _, size := range []int{1, 2, 256} {
		r := fresh(t, size)
		for _, pos := range append(far(), 0, 1, size-1, size) {
			wantNone(t, r, pos)
			wantNoFind(t, r, pos)
		}
		for _, n := range []int{-1, 0, 1, size, math.MaxInt, math.MinInt} {
			wantTake(t, r, n)
		}
		wantCounts(t, r, 0, 0, 0, size)
	}
}

func TestPutTillFull(t *testing.T) {
	for _, size := range []int{1, 2, 3, 255, 256} {
		r := fresh(t, size)
		for pos := range size {
			wantCounts(t, r, pos, 0, pos, size-pos)
			wantPut(t, r, client(pos), pos)
		}
		wantCounts(t, r, size, 0, size, 0)
		wantFull(t, r)
		for pos := range size {
			wantGet(t, r, pos, client(pos))
		}
	}
}

// Only slots that are gone leave room: those that are taken, or done behind one that is not, still have theirs.
func TestPutHasRoomWhenSlotsAreGone(t *testing.T) {
	r := filled(t, 3, 3)
	wantTake(t, r, 3, 0, 1, 2)
	wantFull(t, r)
	wantDone(t, r, 2, api.OK)
	wantDone(t, r, 1, api.OK)
	wantFull(t, r)
	wantBack(t, r, 0, api.OK)
	wantFull(t, r)
	wantTake(t, r, 1, 0)
	wantDone(t, r, 0, api.OK)
	wantCounts(t, r, 3, 3, 0, 3)
	for pos := 3; pos < 6; pos++ {
		wantPut(t, r, client(pos), pos)
	}
	wantCounts(t, r, 6, 3, 3, 0)
	wantFull(t, r)
}

func TestPutTakesEverySlot(t *testing.T) {
	slots := []api.Slot{
		{},
		{Kind: api.Trim, Lba: 4, Stamp: 9, From: -1},
		{Kind: api.Pad, From: 12},
		{Kind: -1, Lba: -1, Stamp: -1, From: -2},
		{Kind: math.MaxInt, Lba: math.MaxInt, Stamp: math.MaxInt, From: math.MaxInt},
		{Kind: math.MinInt, Lba: math.MinInt, Stamp: math.MinInt, From: math.MinInt},
		{Kind: api.Data, Lba: api.MaxLba + 1, Stamp: api.MaxStamp + 1, Data: []byte{}},
		{Kind: api.Data, Data: []byte{1}},
		{Kind: api.Data, Data: make([]byte, 17)},
		{Kind: 99, Data: bytes.Repeat([]byte{7}, 5000)},
		{},
	}
	r := fresh(t, len(slots))
	for pos, s := range slots {
		wantPut(t, r, s, pos)
	}
	for pos, s := range slots {
		wantGet(t, r, pos, s)
	}
	wantCounts(t, r, len(slots), 0, len(slots), 0)
	wantFind(t, r, math.MinInt, 5)
	wantFind(t, r, -1, 3)
	wantNoFind(t, r, math.MaxInt)
}

func TestTake(t *testing.T) {
	r := filled(t, 8, 6)
	for _, n := range []int{-1, 0, -6, -1 << 31, math.MinInt} {
		wantTake(t, r, n)
		wantCounts(t, r, 6, 0, 6, 2)
	}
	wantTake(t, r, 1, 0)
	wantCounts(t, r, 6, 0, 5, 2)
	wantTake(t, r, 2, 1, 2)
	wantCounts(t, r, 6, 0, 3, 2)
	wantTake(t, r, 0)
	wantTake(t, r, 4, 3, 4, 5)
	wantCounts(t, r, 6, 0, 0, 2)
	wantTake(t, r, 1)
	wantTake(t, r, math.MaxInt)
	wantPut(t, r, client(1), 6)
	wantPut(t, r, client(2), 7)
	wantTake(t, r, math.MaxInt, 6, 7)
	wantTake(t, r, math.MaxInt)
}

func TestTakeAllOfAFullRing(t *testing.T) {
	for _, n := range []int{255, 256, 257, 1 << 31, 1 << 32, 1 << 62, math.MaxInt} {
		r := filled(t, 256, 256)
		got := r.Take(n)
		want := min(n, 256)
		if len(got) != want {
			t.Fatalf("Take(%d): %d positions", n, len(got))
		}
		for i, pos := range got {
			if pos != i {
				t.Errorf("Take(%d)[%d]: %d", n, i, pos)
			}
		}
		wantCounts(t, r, 256, 0, 256-want, 0)
	}
}

// What the caller does with the positions is his affair.
func TestTakeAnswerIsTheCallers(t *testing.T) {
	r := filled(t, 4, 4)
	list := r.Take(2)
	list[0], list[1] = 3, 3
	_ = append(list, 9, 9)
	wantTake(t, r, 4, 2, 3)
	wantDone(t, r, 0, api.OK)
	wantDone(t, r, 1, api.OK)
	wantCounts(t, r, 4, 2, 0, 2)
}

// Of eight positions two are gone, two are not put yet; all that stand between are taken.
func TestPositions(t *testing.T) {
	r := filled(t, 8, 6)
	wantTake(t, r, 6, 0, 1, 2, 3, 4, 5)
	wantDone(t, r, 0, api.OK)
	wantDone(t, r, 1, api.OK)
	wantCounts(t, r, 6, 2, 0, 4)
	for _, pos := range append(far(), 0, 1, 6, 7, 8, 9, 14, 256, 262) {
		wantNone(t, r, pos)
	}
	for pos := 2; pos < 6; pos++ {
		wantGet(t, r, pos, client(10+pos))
		wantBack(t, r, pos, api.OK)
		wantRefused(t, r, pos)
	}
	wantTake(t, r, 9, 2, 3, 4, 5)
	for _, pos := range []int{5, 3, 2, 4} {
		wantGet(t, r, pos, client(10+pos))
		wantDone(t, r, pos, api.OK)
	}
	for pos := range 8 {
		wantNone(t, r, pos)
	}
	wantCounts(t, r, 6, 6, 0, 8)
}

func TestDoneAndBackOfASlotThatWaits(t *testing.T) {
	r := filled(t, 4, 3)
	for pos := range 3 {
		wantRefused(t, r, pos)
	}
	wantTake(t, r, 1, 0)
	wantRefused(t, r, 1)
	wantBack(t, r, 0, api.OK)
	wantRefused(t, r, 0)
	wantTake(t, r, 9, 0, 1, 2)
}

func TestDoneAndBackOfASlotThatIsDone(t *testing.T) {
	r := filled(t, 4, 3)
	wantTake(t, r, 3, 0, 1, 2)
	wantDone(t, r, 1, api.OK)
	wantRefused(t, r, 1)
	wantGet(t, r, 1, client(11))
	wantTake(t, r, 9)
	wantDone(t, r, 2, api.OK)
	wantRefused(t, r, 2)
	wantRefused(t, r, 1)
	// It is gone now: that there is none comes ahead of its being done.
	wantDone(t, r, 0, api.OK)
	for pos := range 3 {
		wantNone(t, r, pos)
	}
}

// The tail goes to the first slot that is not done, in whatever order they are.
func TestTail(t *testing.T) {
	const many = 5
	for _, order := range orders(many) {
		r := filled(t, many, many)
		wantTake(t, r, many, 0, 1, 2, 3, 4)
		var isDone [many + 1]bool
		for _, pos := range order {
			wantDone(t, r, pos, api.OK)
			isDone[pos] = true
			tail := slices.Index(isDone[:], false)
			wantCounts(t, r, many, tail, 0, tail)
			for ahead := range tail {
				wantNone(t, r, ahead)
				wantNoFind(t, r, 10+ahead)
			}
			for pos := tail; pos < many; pos++ {
				wantGet(t, r, pos, client(10+pos))
				wantFind(t, r, 10+pos, pos)
			}
		}
	}
}

// orders are all of so many numbers.
func orders(many int) [][]int {
	if many == 0 {
		return [][]int{nil}
	}
	var all [][]int
	for _, order := range orders(many - 1) {
		for at := 0; at < many; at++ {
			all = append(all, slices.Insert(slices.Clone(order), at, many-1))
		}
	}
	return all
}

// A slot that waits holds the tail as one that is taken does.
func TestTailStopsAtASlotThatWaits(t *testing.T) {
	r := filled(t, 4, 3)
	wantTake(t, r, 2, 0, 1)
	wantDone(t, r, 0, api.OK)
	wantDone(t, r, 1, api.OK)
	wantCounts(t, r, 3, 2, 1, 3)
	wantGet(t, r, 2, client(12))
	wantTake(t, r, 9, 2)
	wantPut(t, r, client(13), 3)
	wantTake(t, r, 9, 3)
	wantBack(t, r, 2, api.OK)
	wantDone(t, r, 3, api.OK)
	wantCounts(t, r, 4, 2, 1, 2)
}

func TestBackIsHandedOutFirst(t *testing.T) {
	r := filled(t, 6, 5)
	wantTake(t, r, 3, 0, 1, 2)
	wantBack(t, r, 1, api.OK)
	wantCounts(t, r, 5, 0, 3, 1)
	wantGet(t, r, 1, client(11))
	wantTake(t, r, 1, 1)
	wantBack(t, r, 2, api.OK)
	wantBack(t, r, 0, api.OK)
	wantTake(t, r, 2, 0, 2)
	wantTake(t, r, 1, 3)
	wantBack(t, r, 3, api.OK)
	wantBack(t, r, 1, api.OK)
	wantTake(t, r, 9, 1, 3, 4)
	wantCounts(t, r, 5, 0, 0, 1)
}

// One that stands behind others that wait is handed out behind them.
func TestBackStandsWhereItStood(t *testing.T) {
	r := filled(t, 4, 4)
	wantTake(t, r, 4, 0, 1, 2, 3)
	for _, pos := range []int{3, 0, 2} {
		wantBack(t, r, pos, api.OK)
	}
	wantTake(t, r, 1, 0)
	wantTake(t, r, 1, 2)
	wantTake(t, r, 1, 3)
	wantTake(t, r, 1)
}

func TestFind(t *testing.T) {
	r := fresh(t, 8)
	put := func(lba, from int) {
		t.Helper()
		wantPut(t, r, api.Slot{Kind: api.Data, Lba: lba, From: from}, r.Head())
	}
	put(5, -1)
	put(6, -1)
	put(5, -1)
	put(7, 0)
	put(5, 0)
	put(6, 40)
	put(8, math.MinInt)
	put(5, math.MaxInt)
	wantFind(t, r, 5, 2)
	wantFind(t, r, 6, 1)
	wantFind(t, r, 8, 6)
	for _, lba := range append(far(), 0, 1, 7, 9) {
		wantNoFind(t, r, lba)
	}

	// Those that are taken, or done but not gone, are found as those that wait.
	wantTake(t, r, 3, 0, 1, 2)
	wantFind(t, r, 5, 2)
	wantDone(t, r, 2, api.OK)
	wantFind(t, r, 5, 2)
	wantDone(t, r, 1, api.OK)
	wantFind(t, r, 6, 1)
	wantDone(t, r, 0, api.OK)
	wantCounts(t, r, 8, 3, 5, 3)
	wantNoFind(t, r, 5)
	wantNoFind(t, r, 6)
	put(5, -1)
	wantFind(t, r, 5, 8)
}

// The last one is found although it is done and an older one is not.
func TestFindPrefersTheGreatestPosition(t *testing.T) {
	r := fresh(t, 3)
	for pos := range 3 {
		wantPut(t, r, client(4), pos)
	}
	wantFind(t, r, 4, 2)
	wantTake(t, r, 3, 0, 1, 2)
	wantDone(t, r, 2, api.OK)
	wantBack(t, r, 0, api.OK)
	wantFind(t, r, 4, 2)
	wantTake(t, r, 1, 0)
	wantDone(t, r, 0, api.OK)
	wantFind(t, r, 4, 2)
	wantDone(t, r, 1, api.OK)
	wantNoFind(t, r, 4)
}

// A trim is found as well: it is what the sector is now.
func TestFindDoesNotAskForTheKind(t *testing.T) {
	r := fresh(t, 4)
	for pos, kind := range []int{api.Data, api.Trim, 0, -9} {
		wantPut(t, r, api.Slot{Kind: kind, Lba: 1, From: -1}, pos)
		wantFind(t, r, 1, pos)
	}
}

func TestFreeTimesRound(t *testing.T) {
	for _, size := range []int{1, 2, 7, 256} {
		r := fresh(t, size)
		for pos := range size*20 + 3 {
			wantPut(t, r, client(pos), pos)
			wantCounts(t, r, pos+1, pos, 1, size-1)
			wantFind(t, r, pos, pos)
			wantTake(t, r, 2, pos)
			wantGet(t, r, pos, client(pos))
			wantDone(t, r, pos, api.OK)
			wantCounts(t, r, pos+1, pos+1, 0, size)
			wantNone(t, r, pos)
		}
	}
}

func TestBytesHandedInAreNotKept(t *testing.T) {
	r := fresh(t, 2)
	long := bytesOf(1)
	s := api.Slot{Kind: api.Data, Lba: 1, Data: long[:4], From: -1}
	wantPut(t, r, s, 0)
	if !bytes.Equal(long, bytesOf(1)) {
		t.Error("Put changed the bytes")
	}
	clear(long)
	wantGet(t, r, 0, api.Slot{Kind: api.Data, Lba: 1, Data: bytesOf(1)[:4], From: -1})
	wantPut(t, r, s, 1)
	long[0] = 9
	wantGet(t, r, 0, api.Slot{Kind: api.Data, Lba: 1, Data: bytesOf(1)[:4], From: -1})
	wantGet(t, r, 1, api.Slot{Kind: api.Data, Lba: 1, Data: make([]byte, 4), From: -1})
}

func TestBytesGotAreNotShared(t *testing.T) {
	r := filled(t, 2, 2)
	for range 3 {
		s, _ := r.Get(0)
		clear(s.Data)
		_ = append(s.Data, 1, 2, 3)
		s.Lba, s.From = 99, 99
		wantGet(t, r, 0, client(10))
		wantGet(t, r, 1, client(11))
	}
	one, _ := r.Get(0)
	two, _ := r.Get(0)
	clear(one.Data)
	if !same(two, client(10)) {
		t.Errorf("two answers share bytes: %v", two)
	}
	// An answer outlives its slot.
	wantTake(t, r, 1, 0)
	wantDone(t, r, 0, api.OK)
	wantPut(t, r, client(50), 2)
	if !same(two, client(10)) {
		t.Errorf("an answer changed: %v", two)
	}
}

func TestRingsAreApart(t *testing.T) {
	a, b := filled(t, 3, 2), filled(t, 3, 1)
	wantTake(t, a, 2, 0, 1)
	wantCounts(t, b, 1, 0, 1, 2)
	wantDone(t, a, 0, api.OK)
	wantRefused(t, b, 0)
	wantNoFind(t, b, 11)
	wantCounts(t, a, 2, 1, 0, 2)
}

// model is the chapter as it is written, for the tests alone: all slots that were ever put, none of them forgotten.
type model struct {
	size  int
	slots []api.Slot
	state []byte // w, t or d
}

func (m *model) tail() int {
	for pos, s := range m.state {
		if s != 'd' {
			return pos
		}
	}
	return len(m.state)
}

func (m *model) waiting() []int {
	var l []int
	for pos, s := range m.state {
		if s == 'w' {
			l = append(l, pos)
		}
	}
	return l
}

func (m *model) counts() counts {
	return counts{len(m.slots), m.tail(), len(m.waiting()), m.size - len(m.slots) + m.tail()}
}

func (m *model) put(s api.Slot) (int, api.Errno) {
	if m.counts().free == 0 {
		return 0, api.ErrFull
	}
	m.slots = append(m.slots, s)
	m.state = append(m.state, 'w')
	return len(m.slots) - 1, api.OK
}

func (m *model) take(n int) []int {
	l := m.waiting()
	if n < 0 {
		n = 0
	}
	if n < len(l) {
		l = l[:n]
	}
	for _, pos := range l {
		m.state[pos] = 't'
	}
	return l
}

func (m *model) turn(pos int, to byte) api.Errno {
	if pos < m.tail() || pos >= len(m.slots) {
		return api.ErrNone
	}
	if m.state[pos] != 't' {
		return api.ErrState
	}
	m.state[pos] = to
	return api.OK
}

func (m *model) get(pos int) (api.Slot, api.Errno) {
	if pos < m.tail() || pos >= len(m.slots) {
		return api.Slot{}, api.ErrNone
	}
	return m.slots[pos], api.OK
}

func (m *model) find(lba int) (int, bool) {
	for pos := len(m.slots) - 1; pos >= m.tail(); pos-- {
		if m.slots[pos].Lba == lba && m.slots[pos].From < 0 {
			return pos, true
		}
	}
	return 0, false
}

// numbers are those of a fixed sequence, so that each run is the same.
type numbers uint64

func (x *numbers) below(n int) int {
	*x = *x*6364136223846793005 + 1442695040888963407
	return int(uint64(*x)>>33) % n
}

// walk makes one step in the ring and in the model alike.
func walk(t *testing.T, r *ring.Ring, m *model, x *numbers) {
	t.Helper()
	near := m.tail() - 2 + x.below(m.size+5)
	switch x.below(8) {
	case 0, 1, 2:
		s := api.Slot{Kind: x.below(5), Lba: x.below(4), Stamp: x.below(1000), Data: bytesOf(x.below(200))[:x.below(17)], From: x.below(4) - 2}
		pos, err := r.Put(s)
		if wantPos, wantErr := m.put(s); pos != wantPos || err != wantErr {
			t.Fatalf("Put: %d, %v, want %d, %v", pos, err, wantPos, wantErr)
		}
	case 3, 4:
		n := x.below(6) - 1
		if got, want := r.Take(n), m.take(n); !slices.Equal(got, want) {
			t.Fatalf("Take(%d): %v, want %v", n, got, want)
		}
	case 5, 6:
		if got, want := r.Done(near), m.turn(near, 'd'); got != want {
			t.Fatalf("Done(%d): %v, want %v", near, got, want)
		}
	case 7:
		if got, want := r.Back(near), m.turn(near, 'w'); got != want {
			t.Fatalf("Back(%d): %v, want %v", near, got, want)
		}
	}
}

// wantAsModel tells that all that can be asked is answered alike.
func wantAsModel(t *testing.T, r *ring.Ring, m *model) {
	t.Helper()
	if got, want := seen(r), m.counts(); got != want {
		t.Fatalf("head, tail, waiting, free: %v, want %v", got, want)
	}
	for lba := -1; lba < 5; lba++ {
		pos, is := r.Find(lba)
		if wantPos, wantIs := m.find(lba); pos != wantPos || is != wantIs {
			t.Fatalf("Find(%d): %d, %v, want %d, %v", lba, pos, is, wantPos, wantIs)
		}
	}
	for pos := m.tail() - 2; pos < len(m.slots)+2; pos++ {
		got, err := r.Get(pos)
		if want, wantErr := m.get(pos); err != wantErr || !same(got, want) {
			t.Fatalf("Get(%d): %v, %v, want %v, %v", pos, got, err, want, wantErr)
		}
	}
}

func TestAsTheModel(t *testing.T) {
	x := numbers(1)
	for _, size := range []int{1, 2, 3, 4, 5, 8, 13} {
		for range 12 {
			r, m := fresh(t, size), &model{size: size}
			for range 300 {
				tail := r.Tail()
				walk(t, r, m, &x)
				wantAsModel(t, r, m)
				if r.Tail() < tail {
					t.Fatalf("the tail went back from %d to %d", tail, r.Tail())
				}
			}
		}
	}
}

// Every slot is handed out once, in order, unless it was given back; then once more.
func TestTakeHandsOutEachSlotOnce(t *testing.T) {
	x := numbers(7)
	r := fresh(t, 16)
	var out []int
	given := 0
	for pos := 0; pos < 400; {
		for r.Free() > 0 && pos < 400 {
			wantPut(t, r, client(pos), pos)
			pos++
		}
		list := r.Take(1 + x.below(5))
		if !slices.IsSorted(list) {
			t.Errorf("not in order: %v", list)
		}
		for _, pos := range list {
			if x.below(5) == 0 {
				wantBack(t, r, pos, api.OK)
				given++
				continue
			}
			out = append(out, pos)
			wantDone(t, r, pos, api.OK)
		}
	}
	for l := r.Take(9); len(l) > 0; l = r.Take(9) {
		for _, pos := range l {
			out = append(out, pos)
			wantDone(t, r, pos, api.OK)
		}
	}
	slices.Sort(out)
	if len(out) != 400 || len(slices.Compact(out)) != 400 || given == 0 {
		t.Errorf("%d slots came out, %d were given back", len(out), given)
	}
	wantCounts(t, r, 400, 400, 0, 16)
}
