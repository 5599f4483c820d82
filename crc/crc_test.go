package crc_test

import (
	"bytes"
	"hash/crc32"
	"testing"

	"strake/crc"
)

// mixed are bytes without a pattern that a checksum could share; another seed gives others.
func mixed(n int, seed uint32) []byte {
	b := make([]byte, n)
	for i := range b {
		seed = seed*1664525 + 1013904223
		b[i] = byte(seed >> 24)
	}
	return b
}

// lengths are those about the edges: nothing, a sector, what is summed of a sector, a page.
func lengths() []int { return []int{0, 1, 2, 3, 4, 5, 7, 8, 13, 15, 16, 17, 29, 64, 255, 1000} }

// starts are sums to go on from.
func starts() []uint32 {
	return []uint32{0, 1, 5, 0x80000000, 0xEDB88320, 0xCBF43926, 0xFFFFFFFE, 0xFFFFFFFF}
}

// P1.1: the chapter's examples, and sums that are known elsewhere.
func TestKnownSums(t *testing.T) {
	for _, c := range []struct {
		b    []byte
		want uint32
	}{
		{nil, 0},
		{[]byte{}, 0},
		{[]byte("123456789"), 0xCBF43926},
		{[]byte("a"), 0xE8B7BE43},
		{[]byte{0}, 0xD202EF8D},
		{[]byte{255}, 0xFF000000},
		{make([]byte, 4), 0x2144DF1C},
		{bytes.Repeat([]byte{255}, 4), 0xFFFFFFFF},
		{[]byte("The quick brown fox jumps over the lazy dog"), 0x414FA339},
	} {
		if got := crc.Sum(c.b); got != c.want {
			t.Errorf("Sum(%q): %#x, want %#x", c.b, got, c.want)
		}
		if got := crc.Add(0, c.b); got != c.want {
			t.Errorf("Add(0, %q): %#x, want %#x", c.b, got, c.want)
		}
	}
}

// P1.1: nothing that is added changes nothing.
func TestAddNothing(t *testing.T) {
	for _, sum := range starts() {
		if got := crc.Add(sum, nil); got != sum {
			t.Errorf("Add(%#x, nil): %#x", sum, got)
		}
		if got := crc.Add(sum, []byte{}); got != sum {
			t.Errorf("Add(%#x, empty): %#x", sum, got)
		}
	}
}

// wordByWord is P1.1 as it is written, for the tests alone.
func wordByWord(sum uint32, b []byte) uint32 {
	c := sum ^ 0xFFFFFFFF
	for i := 0; i < len(b); i++ {
		c = c ^ uint32(b[i])
		for j := 0; j < 8; j++ {
			low := c % 2
			c = c / 2
			c = c ^ low*0xEDB88320
		}
	}
	return c ^ 0xFFFFFFFF
}

// P1.1: every byte from every start, and longer ones, against the words and against the library.
func TestAddIsAsWritten(t *testing.T) {
	check := func(sum uint32, b []byte) {
		t.Helper()
		got := crc.Add(sum, b)
		if want := wordByWord(sum, b); got != want {
			t.Errorf("Add(%#x, %v): %#x, want %#x", sum, b, got, want)
		}
		if want := crc32.Update(sum, crc32.IEEETable, b); got != want {
			t.Errorf("Add(%#x, %v): %#x, the library has %#x", sum, b, got, want)
		}
	}
	for _, sum := range starts() {
		for x := range 256 {
			check(sum, []byte{byte(x)})
		}
		for _, n := range lengths() {
			check(sum, mixed(n, uint32(n)))
			check(sum, make([]byte, n))
			check(sum, bytes.Repeat([]byte{255}, n))
		}
	}
}

// P1.1: the bytes are taken from the first on.
func TestOrderCounts(t *testing.T) {
	if crc.Sum([]byte{1, 2}) == crc.Sum([]byte{2, 1}) {
		t.Error("1, 2 and 2, 1 have one sum")
	}
	if crc.Sum([]byte{0}) == crc.Sum([]byte{0, 0}) {
		t.Error("one zero byte and two have one sum")
	}
}

// P1.2: a sum goes on from that of the bytes before, wherever they are cut.
func TestInParts(t *testing.T) {
	for _, n := range lengths() {
		b := mixed(n, 7)
		want := crc.Sum(b)
		bytewise := crc.Sum(nil)
		for cut := range n + 1 {
			if got := crc.Add(crc.Sum(b[:cut]), b[cut:]); got != want {
				t.Errorf("%d bytes, cut at %d: %#x, want %#x", n, cut, got, want)
			}
		}
		for i := range b {
			bytewise = crc.Add(bytewise, b[i:i+1])
		}
		if bytewise != want {
			t.Errorf("%d bytes, one by one: %#x, want %#x", n, bytewise, want)
		}
	}
}

// P1.2: sums of three of one length go together as the bytes do.
func TestAffine(t *testing.T) {
	for _, n := range lengths() {
		for seed := range uint32(20) {
			a, b, c := mixed(n, seed), mixed(n, seed+100), mixed(n, seed+200)
			all := make([]byte, n)
			for i := range all {
				all[i] = a[i] ^ b[i] ^ c[i]
			}
			if got, want := crc.Sum(a)^crc.Sum(b)^crc.Sum(c), crc.Sum(all); got != want {
				t.Errorf("%d bytes, seed %d: %#x, want %#x", n, seed, got, want)
			}
		}
	}
}

// rank is how many of the numbers are no XOR of others.
func rank(l []uint32) int {
	var byTop [32]uint32
	many := 0
	for _, x := range l {
		for top := 31; top >= 0 && x != 0; top-- {
			if x>>top&1 == 0 {
				continue
			}
			if byTop[top] == 0 {
				byTop[top] = x
				many++
				break
			}
			x ^= byTop[top]
		}
	}
	return many
}

// P1.2: by affinity the sum of a change within four bytes is the XOR of those of its bits; if these 32 are
// independent, none of the 2^32 - 1 changes keeps the sum.
func TestFourBytesTell(t *testing.T) {
	for _, n := range []int{1, 2, 3, 4, 5, 16, 29, 64} {
		b := mixed(n, 11)
		sum := crc.Sum(b)
		width := min(n, 4)
		for from := 0; from+width <= n; from++ {
			var changes []uint32
			for bit := range 8 * width {
				changed := bytes.Clone(b)
				changed[from+bit/8] ^= 1 << (bit % 8)
				changes = append(changes, crc.Sum(changed)^sum)
			}
			if got := rank(changes); got != 8*width {
				t.Errorf("%d bytes, %d changed from %d on: rank %d, want %d", n, width, from, got, 8*width)
			}
		}
	}
}

// P1.2: the same without affinity, for changes of which some are the polynomial's own bytes.
func TestChangedBytesTell(t *testing.T) {
	b := mixed(29, 13)
	sum := crc.Sum(b)
	for from := 0; from+4 <= len(b); from++ {
		changes := [][]byte{{1, 0, 0, 0}, {0, 0, 0, 128}, {255, 255, 255, 255}, {0x20, 0x83, 0xB8, 0xED}, {0xED, 0xB8, 0x83, 0x20}}
		for seed := range uint32(200) {
			changes = append(changes, append(mixed(3, seed), byte(seed|1)))
		}
		for _, change := range changes {
			changed := bytes.Clone(b)
			for i, x := range change {
				changed[from+i] ^= x
			}
			if crc.Sum(changed) == sum {
				t.Errorf("changed by %v at %d: the sum is the same", change, from)
			}
		}
	}
}

// R3 and R4: the bytes handed in stay as they are, also those beyond the slice, and the same call answers the same.
func TestArgumentsStay(t *testing.T) {
	whole := mixed(40, 17)
	before := bytes.Clone(whole)
	part := whole[4:20]
	first := crc.Add(9, part)
	if again := crc.Add(9, part); again != first {
		t.Errorf("Add: %#x, then %#x", first, again)
	}
	crc.Sum(part)
	if !bytes.Equal(whole, before) {
		t.Error("the argument was changed")
	}
}
