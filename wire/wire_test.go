package wire_test

import (
	"bytes"
	"encoding/binary"
	"math"
	"slices"
	"testing"

	"strake/api"
	"strake/wire"
)

// mixed are bytes without a pattern; another seed gives others.
func mixed(n int, seed uint32) []byte {
	b := make([]byte, n)
	for i := range b {
		seed = seed*1664525 + 1013904223
		b[i] = byte(seed >> 24)
	}
	return b
}

// numbers are those about the edges: every power of two with its neighbours, small ones, the greatest.
func numbers() []int {
	l := []int{math.MaxInt - 1, math.MaxInt}
	for n := range 1000 {
		l = append(l, n)
	}
	for bit := 10; bit < 63; bit++ {
		l = append(l, 1<<bit-1, 1<<bit, 1<<bit+1, 3<<(bit-2)+5)
	}
	return l
}

// tails are bytes that may follow a code.
func tails() [][]byte {
	return [][]byte{nil, {0}, {1}, {127}, {128}, {128, 0}, {255}, {255, 255, 255}, mixed(20, 3)}
}

// digitsOf is P2.1 as it is written, for the tests alone.
func digitsOf(n int) []byte {
	if n < 0 {
		return nil
	}
	digits := []byte{byte(n % 128)}
	for n /= 128; n > 0; n /= 128 {
		digits = append(digits, byte(n%128))
	}
	for i := range digits[:len(digits)-1] {
		digits[i] += 128
	}
	return digits
}

func wantNumber(t *testing.T, b []byte, n, size int, err api.Errno) {
	t.Helper()
	if gotN, gotSize, gotErr := wire.TakeNumber(b); gotN != n || gotSize != size || gotErr != err {
		t.Errorf("TakeNumber(%v): %d, %d, %d, want %d, %d, %d", b, gotN, gotSize, gotErr, n, size, err)
	}
}

func wantText(t *testing.T, b, text []byte, size int, err api.Errno) {
	t.Helper()
	if got, gotSize, gotErr := wire.TakeText(b); !bytes.Equal(got, text) || gotSize != size || gotErr != err {
		t.Errorf("TakeText(%v): %v, %d, %d, want %v, %d, %d", b, got, gotSize, gotErr, text, size, err)
	}
}

func wantFixed(t *testing.T, b []byte, n uint32, err api.Errno) {
	t.Helper()
	if got, gotErr := wire.TakeFixed(b); got != n || gotErr != err {
		t.Errorf("TakeFixed(%v): %d, %d, want %d, %d", b, got, gotErr, n, err)
	}
}

// P2.1: the chapter's example, the edges of a digit, negative elements, no element.
func TestKnownNumbers(t *testing.T) {
	for _, c := range []struct {
		l    []int
		want []byte
	}{
		{nil, nil},
		{[]int{}, nil},
		{[]int{0}, []byte{0}},
		{[]int{0, 300}, []byte{0, 172, 2}},
		{[]int{300, 0}, []byte{172, 2, 0}},
		{[]int{0, 0, 0}, []byte{0, 0, 0}},
		{[]int{127}, []byte{127}},
		{[]int{128}, []byte{128, 1}},
		{[]int{255}, []byte{255, 1}},
		{[]int{16383}, []byte{255, 127}},
		{[]int{16384}, []byte{128, 128, 1}},
		{[]int{math.MaxInt}, []byte{255, 255, 255, 255, 255, 255, 255, 255, 127}},
		{[]int{1 << 62}, []byte{128, 128, 128, 128, 128, 128, 128, 128, 64}},
		{[]int{-1}, nil},
		{[]int{math.MinInt}, nil},
		{[]int{-1, math.MinInt, -300}, nil},
		{[]int{-1, 5, -128, 300, math.MinInt}, []byte{5, 172, 2}},
	} {
		if got := wire.Number(c.l...); !bytes.Equal(got, c.want) {
			t.Errorf("Number(%v): %v, want %v", c.l, got, c.want)
		}
	}
	if got := wire.Number(); len(got) != 0 {
		t.Errorf("Number(): %v", got)
	}
}

// P2.1: each number against the words and against the library; a list is its numbers one behind the other.
func TestNumberIsAsWritten(t *testing.T) {
	var all []byte
	for _, n := range numbers() {
		got := wire.Number(n)
		if want := digitsOf(n); !bytes.Equal(got, want) {
			t.Errorf("Number(%d): %v, want %v", n, got, want)
		}
		if want := binary.AppendUvarint(nil, uint64(n)); !bytes.Equal(got, want) {
			t.Errorf("Number(%d): %v, the library has %v", n, got, want)
		}
		if got := wire.Number(^n); len(got) != 0 {
			t.Errorf("Number(%d): %v", ^n, got)
		}
		all = append(all, got...)
	}
	if got := wire.Number(numbers()...); !bytes.Equal(got, all) {
		t.Error("the code of a list is not its numbers' codes, one behind the other")
	}
}

// P2.2: the chapter's examples and the edges.
func TestTakeKnownNumbers(t *testing.T) {
	wantNumber(t, []byte{172, 2, 9}, 300, 2, api.OK)
	wantNumber(t, []byte{172, 2}, 300, 2, api.OK)
	wantNumber(t, []byte{0}, 0, 1, api.OK)
	wantNumber(t, []byte{0, 128}, 0, 1, api.OK)
	wantNumber(t, []byte{0, 0}, 0, 1, api.OK)
	wantNumber(t, []byte{127, 255}, 127, 1, api.OK)
	wantNumber(t, []byte{128, 1}, 128, 2, api.OK)
	wantNumber(t, []byte{128, 128, 1}, 1<<14, 3, api.OK)
	wantNumber(t, []byte{255, 255, 255, 255, 255, 255, 255, 255, 127}, math.MaxInt, 9, api.OK)
	wantNumber(t, []byte{128, 128, 128, 128, 128, 128, 128, 128, 1}, 1<<56, 9, api.OK)
}

// P2.2: no varint: nothing, no end, more digits than needed, more than 2^63 - 1.
func TestTakeNoNumber(t *testing.T) {
	for _, b := range [][]byte{
		nil,
		{},
		{128},
		{255},
		{172},
		{128, 128},
		{128, 0},
		{128, 0, 1},
		{255, 0},
		{172, 130, 0},
		{128, 128, 0},
		{255, 255, 255, 255, 255, 255, 255, 255, 0},
		{255, 255, 255, 255, 255, 255, 255, 255},
		{255, 255, 255, 255, 255, 255, 255, 255, 255},
		{255, 255, 255, 255, 255, 255, 255, 255, 255, 0},
		{128, 128, 128, 128, 128, 128, 128, 128, 128, 0},
		{128, 128, 128, 128, 128, 128, 128, 128, 128, 1},
		{255, 255, 255, 255, 255, 255, 255, 255, 255, 1},
		{128, 128, 128, 128, 128, 128, 128, 128, 128, 2},
		{128, 128, 128, 128, 128, 128, 128, 128, 128, 128, 1},
		bytes.Repeat([]byte{128}, 100),
		append(bytes.Repeat([]byte{128}, 100), 1),
		bytes.Repeat([]byte{255}, 1000),
	} {
		wantNumber(t, b, 0, 0, api.ErrForm)
	}
}

// P2.2: each way to write too many digits, for each number.
func TestTakeNumberRefusesLongerOnes(t *testing.T) {
	for _, n := range numbers() {
		longer := wire.Number(n)
		for range 12 {
			longer[len(longer)-1] += 128
			longer = append(longer, 0)
			wantNumber(t, longer, 0, 0, api.ErrForm)
			wantNumber(t, append(bytes.Clone(longer), 1), 0, 0, api.ErrForm)
		}
	}
}

// P2.3: the chapter's examples, both ways.
func TestKnownFixed(t *testing.T) {
	for _, c := range []struct {
		n    uint32
		want []byte
	}{
		{0, []byte{0, 0, 0, 0}},
		{1, []byte{1, 0, 0, 0}},
		{258, []byte{2, 1, 0, 0}},
		{1 << 16, []byte{0, 0, 1, 0}},
		{1 << 31, []byte{0, 0, 0, 128}},
		{0x04030201, []byte{1, 2, 3, 4}},
		{math.MaxUint32, []byte{255, 255, 255, 255}},
	} {
		if got := wire.Fixed(c.n); !bytes.Equal(got, c.want) {
			t.Errorf("Fixed(%d): %v, want %v", c.n, got, c.want)
		}
		for _, tail := range tails() {
			wantFixed(t, slices.Concat(c.want, tail), c.n, api.OK)
		}
	}
}

// P2.3: fewer than four bytes are none.
func TestTakeNoFixed(t *testing.T) {
	for _, b := range [][]byte{nil, {}, {0}, {255, 255}, {1, 2, 3}, {0, 0, 0}} {
		wantFixed(t, b, 0, api.ErrForm)
	}
}

// P2.4: the chapter's examples, and texts whose length has one, two and three digits.
func TestKnownTexts(t *testing.T) {
	if got := wire.Text([]byte("ab")); string(got) != "\x02ab" {
		t.Errorf("Text(ab): %v", got)
	}
	for _, b := range [][]byte{nil, {}} {
		if got := wire.Text(b); string(got) != "\x00" {
			t.Errorf("Text of nothing: %v", got)
		}
	}
	for _, n := range []int{0, 1, 2, 126, 127, 128, 129, 300, 16383, 16384, 20000} {
		b := mixed(n, uint32(n))
		want := append(digitsOf(n), b...)
		if got := wire.Text(b); !bytes.Equal(got, want) {
			t.Errorf("Text of %d bytes is not their number and they", n)
		}
	}
	wantText(t, []byte("\x02ab"), []byte("ab"), 3, api.OK)
	wantText(t, []byte("\x02abc"), []byte("ab"), 3, api.OK)
	wantText(t, []byte{0}, nil, 1, api.OK)
	wantText(t, []byte{0, 5, 6}, nil, 1, api.OK)
	wantText(t, []byte{3, 0, 255, 128, 1}, []byte{0, 255, 128}, 4, api.OK)
}

// P2.4: no text: nothing, a length that is no varint, bytes that are missing.
func TestTakeNoText(t *testing.T) {
	for _, b := range [][]byte{
		nil,
		{},
		{2},
		{2, 97},
		{1},
		{128, 0},
		{129, 0, 7},
		{128},
		{255, 255},
		append(digitsOf(math.MaxInt), 1, 2, 3),
		append(digitsOf(math.MaxInt-8), 1, 2, 3),
		append(digitsOf(1<<62), 1, 2, 3),
		append(digitsOf(1<<32), 1, 2, 3),
		append(digitsOf(128), make([]byte, 127)...),
		{128, 128, 128, 128, 128, 128, 128, 128, 128, 1, 0},
	} {
		wantText(t, b, nil, 0, api.ErrForm)
	}
	for _, n := range []int{1, 2, 127, 128, 129, 300} {
		whole := wire.Text(mixed(n, 5))
		for cut := range whole {
			wantText(t, whole[:cut], nil, 0, api.ErrForm)
		}
	}
}

// P2.5: what was encoded comes back, whatever follows.
func TestThereAndBack(t *testing.T) {
	for _, tail := range tails() {
		for _, n := range numbers() {
			code := wire.Number(n)
			wantNumber(t, slices.Concat(code, tail), n, len(code), api.OK)
			fixed := uint32(n) ^ uint32(n>>32)
			wantFixed(t, slices.Concat(wire.Fixed(fixed), tail), fixed, api.OK)
		}
		for _, n := range []int{0, 1, 2, 16, 127, 128, 129, 300, 16384} {
			text := mixed(n, uint32(n)+9)
			code := wire.Text(text)
			wantText(t, slices.Concat(code, tail), text, len(code), api.OK)
		}
	}
}

// P2.5: a list of numbers, and texts among them, comes back one by one.
func TestOneBehindTheOther(t *testing.T) {
	l := []int{0, 1 << 62, 127, 128, 0, math.MaxInt, 300}
	code := wire.Number(l...)
	for _, want := range l {
		n, size, err := wire.TakeNumber(code)
		if n != want || err != api.OK {
			t.Fatalf("TakeNumber(%v): %d, %d, %d, want %d", code, n, size, err, want)
		}
		code = code[size:]
	}
	if len(code) != 0 {
		t.Errorf("left: %v", code)
	}
}

// wantSameCode asks that whatever could be decoded is encoded as the very bytes that were decoded.
func wantSameCode(t *testing.T, b []byte) {
	t.Helper()
	if n, size, err := wire.TakeNumber(b); err == api.OK {
		if n < 0 || size < 1 || size > len(b) || !bytes.Equal(wire.Number(n), b[:size]) {
			t.Errorf("TakeNumber(%v): %d, %d, whose code is %v", b, n, size, wire.Number(n))
		}
	}
	if text, size, err := wire.TakeText(b); err == api.OK {
		if size < 1 || size > len(b) || !bytes.Equal(wire.Text(text), b[:size]) {
			t.Errorf("TakeText(%v): %v, %d, whose code is %v", b, text, size, wire.Text(text))
		}
	}
	if n, err := wire.TakeFixed(b); err == api.OK && !bytes.Equal(wire.Fixed(n), b[:4]) {
		t.Errorf("TakeFixed(%v): %d, whose code is %v", b, n, wire.Fixed(n))
	}
}

// P2.5: all inputs of two bytes, those of three and more with bytes about the edges, and ones without a pattern.
func TestBackAndThere(t *testing.T) {
	for x := range 256 {
		wantSameCode(t, []byte{byte(x)})
		for y := range 256 {
			wantSameCode(t, []byte{byte(x), byte(y)})
		}
	}
	edges := []byte{0, 1, 2, 127, 128, 129, 255}
	grow := [][]byte{nil}
	for range 5 {
		var longer [][]byte
		for _, b := range grow {
			for _, x := range edges {
				longer = append(longer, append(bytes.Clone(b), x))
				wantSameCode(t, longer[len(longer)-1])
			}
		}
		grow = longer
	}
	for seed := range uint32(2000) {
		wantSameCode(t, mixed(12, seed))
		many := bytes.Repeat([]byte{128}, int(seed%12))
		wantSameCode(t, append(many, mixed(4, seed)...))
	}
}

// P2.5: no varint begins another one.
func TestNoneBeginsAnother(t *testing.T) {
	var codes [][]byte
	for _, n := range numbers() {
		codes = append(codes, wire.Number(n))
	}
	for i, a := range codes {
		for j, b := range codes {
			if i != j && len(a) < len(b) && bytes.HasPrefix(b, a) {
				t.Fatalf("%v begins %v", a, b)
			}
		}
	}
}

// R3: arguments stay as they are, also beyond the slice, and what is handed out is the caller's alone.
func TestArgumentsStay(t *testing.T) {
	l := []int{5, -1, 300}
	wire.Number(l...)
	if !slices.Equal(l, []int{5, -1, 300}) {
		t.Errorf("Number changed its argument: %v", l)
	}
	whole := append([]byte{7, 4}, mixed(30, 21)...)
	before := bytes.Clone(whole)
	wire.TakeNumber(whole[1:9])
	wire.TakeFixed(whole[1:9])
	code := wire.Text(whole[2:6])
	text, _, _ := wire.TakeText(whole[1:9])
	if !bytes.Equal(whole, before) {
		t.Fatal("an argument was changed")
	}
	for i := range code {
		code[i]++
	}
	for i := range text {
		text[i]++
	}
	_ = append(text, 1, 2, 3)
	if !bytes.Equal(whole, before) {
		t.Error("a result shares memory with an argument")
	}
	first, second := wire.Number(1, 2), wire.Number(1, 2)
	first[0] = 9
	if second[0] != 1 || wire.Number(1, 2)[0] != 1 {
		t.Error("two results share memory")
	}
	one := wire.Fixed(5)
	one[0] = 9
	if wire.Fixed(5)[0] != 5 {
		t.Error("two results of Fixed share memory")
	}
}
