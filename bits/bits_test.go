package bits_test

import (
	"bytes"
	"math"
	"slices"
	"testing"

	"strake/bits"
)

// samples are bitmaps and other bytes: none, one, some, many, and more than the greatest bitmap has.
func samples() [][]byte {
	l := [][]byte{nil, {}, {0}, {1}, {128}, {255}, {5, 1}, {0, 0}, {255, 255}, {0, 128, 0, 1}, {254, 127, 0, 255, 16}, make([]byte, 1024), bytes.Repeat([]byte{255}, 1030)}
	mixed := make([]byte, 100)
	for i := range mixed {
		mixed[i] = byte(i * i * 37 >> 2)
	}
	return append(l, mixed)
}

// plain tells bits the slow way: by halving.
func plain(b []byte) []bool {
	var l []bool
	for _, c := range b {
		for range 8 {
			l = append(l, c%2 == 1)
			c /= 2
		}
	}
	return l
}

// outside are indices for which bytes have no bit.
func outside(b []byte) []int {
	return []int{math.MinInt, -8192, -9, -8, -1, 8 * len(b), 8*len(b) + 1, 8*len(b) + 7, 8*len(b) + 8, 1 << 32, 1 << 61, math.MaxInt}
}

// P4.1

func TestMake(t *testing.T) {
	for n := 0; n <= 8192; n++ {
		b := bits.Make(n)
		if len(b) != (n+7)/8 || bytes.Count(b, []byte{0}) != len(b) {
			t.Fatalf("Make(%d): %v", n, b)
		}
		if !bits.Right(b, n) {
			t.Fatalf("Make(%d) is not right", n)
		}
	}
	for _, n := range []int{math.MinInt, -8192, -8, -7, -1, 8193, 8200, 1 << 32, math.MaxInt - 7, math.MaxInt} {
		if b := bits.Make(n); len(b) != 0 {
			t.Errorf("Make(%d): %d bytes", n, len(b))
		}
	}
	if b := bits.Make(9); !bytes.Equal(b, []byte{0, 0}) {
		t.Errorf("Make(9): %v", b)
	}
}

func TestMakeIsNew(t *testing.T) {
	one := bits.Make(16)
	one[0] = 255
	if two := bits.Make(16); two[0] != 0 {
		t.Error("two bitmaps share bytes")
	}
}

func TestRight(t *testing.T) {
	for _, c := range []struct {
		b    []byte
		n    int
		want bool
	}{
		{nil, 0, true}, {[]byte{}, 0, true}, {[]byte{0}, 0, false},
		{nil, 1, false}, {[]byte{}, 1, false}, {[]byte{0}, 1, true}, {[]byte{1}, 1, true}, {[]byte{2}, 1, false}, {[]byte{3}, 1, false}, {[]byte{128}, 1, false},
		{[]byte{127}, 7, true}, {[]byte{128}, 7, false}, {[]byte{255}, 8, true}, {[]byte{255, 0}, 8, false},
		{[]byte{255}, 9, false}, {[]byte{255, 1}, 9, true}, {[]byte{255, 2}, 9, false}, {[]byte{255, 128}, 9, false}, {[]byte{255, 1, 0}, 9, false},
		{[]byte{0, 0}, 16, true}, {[]byte{0, 0}, 17, false}, {[]byte{0, 0}, 8, false},
		{nil, -1, false}, {[]byte{}, -1, false}, {nil, -7, false}, {nil, -8, false}, {[]byte{0}, -1, false}, {nil, math.MinInt, false}, {nil, math.MaxInt, false}, {[]byte{0}, math.MaxInt, false},
		{bytes.Repeat([]byte{255}, 1024), 8192, true}, {bytes.Repeat([]byte{255}, 1024), 8191, false}, {make([]byte, 1024), 8191, true}, {make([]byte, 1024), 8184, false},
		{make([]byte, 1025), 8193, false}, {make([]byte, 1024), 8193, false}, {make([]byte, 1025), 8192, false}, {make([]byte, 1023), 8192, false}, {make([]byte, 1025), 8200, false},
	} {
		if got := bits.Right(c.b, c.n); got != c.want {
			t.Errorf("Right(%v, %d): %v", c.b, c.n, got)
		}
	}
}

func TestRightOfEachBit(t *testing.T) {
	for n := 1; n <= 40; n++ {
		for i := range 8 * ((n + 7) / 8) {
			b, _ := bits.Set(bits.Make(n), i, true)
			if bits.Right(b, n) != (i < n) {
				t.Errorf("Right(%v, %d): %v", b, n, i >= n)
			}
		}
	}
}

func TestGet(t *testing.T) {
	for _, b := range samples() {
		for i, on := range plain(b) {
			if bits.Get(b, i) != on {
				t.Fatalf("Get(%v, %d): %v", b, i, !on)
			}
		}
		for _, i := range outside(b) {
			if bits.Get(b, i) {
				t.Errorf("Get(%v, %d): there is no such bit", b, i)
			}
		}
	}
}

// P4.2

func TestSet(t *testing.T) {
	for _, b := range samples() {
		for i := range 8 * min(len(b), 20) {
			for _, on := range []bool{false, true} {
				was := slices.Clone(b)
				want := plain(b)
				want[i] = on
				got, ok := bits.Set(b, i, on)
				if !ok || len(got) != len(b) || !slices.Equal(plain(got), want) {
					t.Fatalf("Set(%v, %d, %v): %v, %v", b, i, on, got, ok)
				}
				if !bytes.Equal(b, was) {
					t.Fatalf("Set(.., %d, %v) has changed its argument", i, on)
				}
				got[0]++
				if !bytes.Equal(b, was) {
					t.Fatalf("Set(%v, %d, %v) shares bytes with its argument", was, i, on)
				}
			}
		}
	}
	if b, ok := bits.Set(bits.Make(9), 8, true); !bytes.Equal(b, []byte{0, 1}) || !ok {
		t.Errorf("the example: %v, %v", b, ok)
	}
	if b, ok := bits.Set(bits.Make(8192), 8191, true); len(b) != 1024 || b[1023] != 128 || !ok {
		t.Errorf("the last bit: %v, %v", b, ok)
	}
}

func TestSetWithinACapacity(t *testing.T) {
	// What lies beyond the bytes belongs to the caller too.
	whole := []byte{1, 2, 3, 4}
	if b, ok := bits.Set(whole[:2], 16, true); b != nil || ok {
		t.Errorf("a bit beyond the bytes: %v, %v", b, ok)
	}
	b, _ := bits.Set(whole[:2], 15, true)
	_ = append(b, 99)
	if !bytes.Equal(whole, []byte{1, 2, 3, 4}) {
		t.Errorf("changed: %v", whole)
	}
}

func TestSetOutside(t *testing.T) {
	for _, b := range samples() {
		for _, i := range outside(b) {
			for _, on := range []bool{false, true} {
				if got, ok := bits.Set(b, i, on); got != nil || ok {
					t.Errorf("Set(%v, %d, %v): %v, %v", b, i, on, got, ok)
				}
			}
		}
	}
}

func TestCountAndList(t *testing.T) {
	for _, b := range samples() {
		was := slices.Clone(b)
		var want []int
		for i, on := range plain(b) {
			if on {
				want = append(want, i)
			}
		}
		if n := bits.Count(b); n != len(want) {
			t.Errorf("Count(%v): %d, want %d", b, n, len(want))
		}
		if l := bits.List(b); !slices.Equal(l, want) {
			t.Errorf("List(%v): %v, want %v", b, l, want)
		}
		if !bytes.Equal(b, was) {
			t.Error("the argument has changed")
		}
	}
	if l := bits.List([]byte{5, 1}); !slices.Equal(l, []int{0, 2, 8}) || bits.Count([]byte{5, 1}) != 3 {
		t.Errorf("the example: %v", l)
	}
}

// P4.3

func TestNextExamples(t *testing.T) {
	for _, c := range []struct {
		b       []byte
		n, from int
		on      bool
		want    int
	}{
		{[]byte{5, 1}, 9, 1, true, 2}, {[]byte{5, 1}, 9, 0, false, 1}, {[]byte{255}, 8, 0, false, -1}, {[]byte{255}, 9, 0, false, 8},
		// The index itself counts, and n doesn't.
		{[]byte{5, 1}, 9, 0, true, 0}, {[]byte{5, 1}, 9, 8, true, 8}, {[]byte{5, 1}, 8, 3, true, -1}, {[]byte{5, 1}, 9, 3, true, 8}, {[]byte{5, 1}, 16, 9, true, -1}, {[]byte{5, 1}, 2, 1, true, -1}, {[]byte{5, 1}, 1, 0, false, -1},
		// Below 0.
		{[]byte{5, 1}, 9, -1, true, 0}, {[]byte{5, 1}, 9, math.MinInt, true, 0}, {[]byte{5, 1}, 9, -3, false, 1}, {[]byte{0}, 8, math.MinInt, false, 0},
		// No index is less than n.
		{[]byte{5, 1}, 0, 0, true, -1}, {[]byte{5, 1}, 0, 0, false, -1}, {[]byte{5, 1}, -1, -5, true, -1}, {[]byte{5, 1}, -1, -5, false, -1}, {[]byte{5, 1}, math.MinInt, 0, false, -1}, {[]byte{255}, math.MinInt, math.MinInt, true, -1}, {[]byte{255}, 3, 3, true, -1}, {[]byte{0}, 3, 3, false, -1}, {[]byte{0}, 3, 4, false, -1}, {[]byte{0}, 3, math.MaxInt, false, -1},
		// Beyond the bytes all is off.
		{nil, 1, 0, false, 0}, {nil, 1, 0, true, -1}, {nil, 0, 0, false, -1}, {[]byte{}, 5, 3, false, 3}, {[]byte{255}, 100, 50, false, 50}, {[]byte{255}, 100, 50, true, -1}, {[]byte{255}, 100, 100, false, -1},
		{[]byte{255}, math.MaxInt, 0, false, 8}, {[]byte{255}, math.MaxInt, 8, true, -1}, {nil, math.MaxInt, 0, true, -1}, {[]byte{128}, math.MaxInt, 0, true, 7},
		{[]byte{255}, math.MaxInt, math.MaxInt - 1, false, math.MaxInt - 1}, {[]byte{255}, math.MaxInt, math.MaxInt - 1, true, -1}, {[]byte{255}, math.MaxInt, math.MaxInt, false, -1}, {nil, math.MaxInt, math.MaxInt, true, -1},
		// More bits than a bitmap may have.
		{make([]byte, 1030), 8240, 8200, false, 8200}, {bytes.Repeat([]byte{255}, 1030), 8240, 8239, true, 8239}, {bytes.Repeat([]byte{255}, 1030), 9000, 0, false, 8240},
	} {
		if got := bits.Next(c.b, c.n, c.from, c.on); got != c.want {
			t.Errorf("Next(%v, %d, %d, %v): %d, want %d", c.b, c.n, c.from, c.on, got, c.want)
		}
	}
}

func TestNextAgainstGet(t *testing.T) {
	for _, b := range samples() {
		if len(b) > 5 {
			continue
		}
		for n := -2; n <= 8*len(b)+10; n++ {
			for from := -2; from <= 8*len(b)+11; from++ {
				for _, on := range []bool{false, true} {
					want := -1
					for i := n - 1; i >= max(from, 0); i-- {
						if bits.Get(b, i) == on {
							want = i
						}
					}
					if got := bits.Next(b, n, from, on); got != want {
						t.Fatalf("Next(%v, %d, %d, %v): %d, want %d", b, n, from, on, got, want)
					}
				}
			}
		}
	}
}

// P4.4

func TestGetIsWhatSetHasStored(t *testing.T) {
	for _, n := range []int{1, 7, 8, 9, 64, 65, 300} {
		b := bits.Make(n)
		want := make([]bool, n)
		for k := range 3 * n {
			i, on := k*k*5%n, k%3 != 0
			want[i] = on
			b, _ = bits.Set(b, i, on)
			if !bits.Right(b, n) {
				t.Fatalf("%v is no bitmap of %d bits", b, n)
			}
			for j, on := range want {
				if bits.Get(b, j) != on {
					t.Fatalf("bit %d of %v: %v", j, b, !on)
				}
			}
		}
	}
}

func TestOnAndOffAgain(t *testing.T) {
	for _, b := range samples() {
		for i := range 8 * min(len(b), 20) {
			first := bits.Get(b, i)
			turned, _ := bits.Set(b, i, !first)
			if bits.Get(turned, i) == first || bytes.Equal(turned, b) {
				t.Fatalf("bit %d of %v hasn't turned", i, b)
			}
			if back, ok := bits.Set(turned, i, first); !ok || !bytes.Equal(back, b) {
				t.Fatalf("bit %d of %v turned and back: %v", i, b, back)
			}
		}
	}
}

func TestNextGoesThroughList(t *testing.T) {
	for _, b := range samples() {
		var got []int
		for i := bits.Next(b, 8*len(b), 0, true); i >= 0; i = bits.Next(b, 8*len(b), i+1, true) {
			got = append(got, i)
		}
		if want := bits.List(b); !slices.Equal(got, want) {
			t.Errorf("%v: Next: %v, List: %v", b, got, want)
		}
	}
}
