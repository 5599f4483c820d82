package oob_test

import (
	"bytes"
	"encoding/binary"
	"hash/crc32"
	"math"
	"slices"
	"testing"

	"strake/api"
	"strake/oob"
)

// valid are metadata of each kind, with numbers about the edges.
func valid() []api.Oob {
	var l []api.Oob
	for kind := 1; kind <= 4; kind++ {
		for _, lba := range []int{0, 1, 255, 256, 258, 65535, 65536, 1<<24 - 1, 1 << 24, 1<<31 - 2, 1<<31 - 1} {
			for _, stamp := range []int{0, 1, 255, 256, 1<<31 - 1, 1 << 31, 1<<32 - 1, 1 << 32, 1<<32 + 1, 1<<40 + 7, 0x2030405060708, 1<<50 - 1, 1 << 50} {
				l = append(l, api.Oob{Kind: kind, Lba: lba, Stamp: stamp})
			}
		}
	}
	return l
}

// wrong are metadata of which one thing, or several, may not be.
func wrong() []api.Oob {
	var l []api.Oob
	for _, kind := range []int{math.MinInt, -255, -252, -1, 0, 5, 6, 255, 256, 257, 260, 1<<32 + 1, math.MaxInt} {
		l = append(l, api.Oob{Kind: kind, Lba: 3, Stamp: 5}, api.Oob{Kind: kind, Lba: -1, Stamp: -1})
	}
	for _, lba := range []int{math.MinInt, math.MinInt + 3, -1 << 32, -1 << 31, -258, -1, 1 << 31, 1<<31 + 1, 1<<32 - 1, 1 << 32, 1<<32 + 3, math.MaxInt} {
		l = append(l, api.Oob{Kind: api.Data, Lba: lba, Stamp: 5}, api.Oob{Kind: api.Head, Lba: lba, Stamp: 1<<50 + 1})
	}
	for _, stamp := range []int{math.MinInt, math.MinInt + 5, -1 << 50, -1 << 32, -5, -1, 1<<50 + 1, 1<<50 + 1<<32, 1 << 51, 1 << 62, math.MaxInt} {
		l = append(l, api.Oob{Kind: api.Trim, Lba: 3, Stamp: stamp}, api.Oob{Kind: 5, Lba: 3, Stamp: stamp})
	}
	return append(l, api.Oob{})
}

// sectors are some: of zeros, of ones, without a pattern.
func sectors() [][]byte {
	mixed := make([]byte, 16)
	for i := range mixed {
		mixed[i] = byte(i*i*73 + 19)
	}
	return [][]byte{make([]byte, 16), bytes.Repeat([]byte{255}, 16), mixed}
}

// noSectors have not the length of one.
func noSectors() [][]byte {
	return [][]byte{nil, {}, make([]byte, 1), make([]byte, 15), make([]byte, 17), make([]byte, 32), make([]byte, 16)[:15]}
}

// summed are thirteen bytes with their checksum, by the library.
func summed(head, data []byte) []byte {
	return binary.LittleEndian.AppendUint32(slices.Clone(head), crc32.ChecksumIEEE(slices.Concat(head, data)))
}

// headOf are the thirteen bytes of numbers that need not be valid.
func headOf(kind byte, lba, low, high uint32) []byte {
	head := []byte{kind}
	for _, n := range []uint32{lba, low, high} {
		head = binary.LittleEndian.AppendUint32(head, n)
	}
	return head
}

// packed is P5.1 as it is written, for the tests alone.
func packed(o api.Oob, data []byte) []byte {
	return summed(headOf(byte(o.Kind), uint32(o.Lba), uint32(o.Stamp%(1<<32)), uint32(o.Stamp/(1<<32))), data)
}

func wantUnpack(t *testing.T, b, data []byte, o api.Oob, err api.Errno) {
	t.Helper()
	if got, gotErr := oob.Unpack(b, data); got != o || gotErr != err {
		t.Errorf("Unpack(%v, %v): %v, %d, want %v, %d", b, data, got, gotErr, o, err)
	}
}

// P5.1

func TestRight(t *testing.T) {
	for _, o := range valid() {
		if !oob.Right(o) {
			t.Errorf("Right(%v): false", o)
		}
	}
	for _, o := range wrong() {
		if oob.Right(o) {
			t.Errorf("Right(%v): true", o)
		}
	}
}

func TestPack(t *testing.T) {
	for _, o := range valid() {
		for _, data := range sectors() {
			got, err := oob.Pack(o, data)
			if want := packed(o, data); err != api.OK || !bytes.Equal(got, want) {
				t.Fatalf("Pack(%v, %v): %v, %d, want %v", o, data, got, err, want)
			}
		}
	}
}

func TestPackKnown(t *testing.T) {
	zeros := make([]byte, 16)
	for _, c := range []struct {
		o    api.Oob
		want []byte
	}{
		{api.Oob{Kind: api.Data, Lba: 258, Stamp: 1}, []byte{1, 2, 1, 0, 0, 1, 0, 0, 0, 0, 0, 0, 0}},
		{api.Oob{Kind: api.Trim, Lba: 0, Stamp: 1 << 32}, []byte{2, 0, 0, 0, 0, 0, 0, 0, 0, 1, 0, 0, 0}},
		{api.Oob{Kind: api.Pad, Lba: 1<<31 - 1, Stamp: 1 << 50}, []byte{3, 255, 255, 255, 127, 0, 0, 0, 0, 0, 0, 4, 0}},
		{api.Oob{Kind: api.Head, Lba: 0x04030201, Stamp: 1<<50 - 1}, []byte{4, 1, 2, 3, 4, 255, 255, 255, 255, 255, 255, 3, 0}},
		{api.Oob{Kind: api.Data, Lba: 0, Stamp: 0x0002030405060708}, []byte{1, 0, 0, 0, 0, 8, 7, 6, 5, 4, 3, 2, 0}},
	} {
		got, err := oob.Pack(c.o, zeros)
		if err != api.OK || !bytes.Equal(got, summed(c.want, zeros)) {
			t.Errorf("Pack(%v, ..): %v, %d", c.o, got, err)
		}
	}
}

func TestPackNothing(t *testing.T) {
	for _, o := range wrong() {
		for _, data := range append(noSectors(), sectors()...) {
			if b, err := oob.Pack(o, data); len(b) != 0 || err != api.ErrArg {
				t.Errorf("Pack(%v, %d bytes): %v, %d", o, len(data), b, err)
			}
		}
	}
	for _, o := range valid() {
		for _, data := range noSectors() {
			if b, err := oob.Pack(o, data); len(b) != 0 || err != api.ErrArg {
				t.Errorf("Pack(%v, %d bytes): %v, %d", o, len(data), b, err)
			}
		}
	}
}

// P5.2

func TestUnpack(t *testing.T) {
	for _, o := range valid() {
		for _, data := range sectors() {
			wantUnpack(t, packed(o, data), data, o, api.OK)
		}
	}
}

func TestUnpackOfWrongLengths(t *testing.T) {
	o, data := api.Oob{Kind: api.Data, Lba: 258, Stamp: 1}, sectors()[2]
	whole := packed(o, data)
	for n := range whole {
		wantUnpack(t, whole[:n], data, api.Oob{}, api.ErrForm)
	}
	wantUnpack(t, nil, data, api.Oob{}, api.ErrForm)
	wantUnpack(t, append(slices.Clone(whole), 0), data, api.Oob{}, api.ErrForm)
	wantUnpack(t, slices.Concat(whole, whole), data, api.Oob{}, api.ErrForm)
	wantUnpack(t, nil, nil, api.Oob{}, api.ErrForm)
	for _, short := range noSectors() {
		wantUnpack(t, packed(o, short), short, api.Oob{}, api.ErrForm)
		wantUnpack(t, whole, short, api.Oob{}, api.ErrForm)
	}
}

// Bytes that are not those of valid metadata have a wrong form, whether their checksum is right or not.
func TestUnpackOfNoMetadata(t *testing.T) {
	for _, data := range sectors() {
		wantUnpack(t, make([]byte, 17), data, api.Oob{}, api.ErrForm)
		wantUnpack(t, bytes.Repeat([]byte{255}, 17), data, api.Oob{}, api.ErrForm)
		for _, head := range [][]byte{
			headOf(0, 3, 5, 0),
			headOf(5, 3, 5, 0),
			headOf(128, 3, 5, 0),
			headOf(255, 3, 5, 0),
			headOf(1, 1<<31, 5, 0),
			headOf(1, 1<<31+3, 5, 0),
			headOf(2, math.MaxUint32, 5, 0),
			headOf(3, 3, 1, 1<<18),
			headOf(3, 3, math.MaxUint32, 1<<18),
			headOf(3, 3, 0, 1<<18+1),
			headOf(4, 3, 0, 1<<19),
			headOf(4, 3, 5, 1<<31-1),
			headOf(4, 3, 5, 1<<31),
			headOf(4, 3, 0, 1<<31),
			headOf(4, 3, math.MaxUint32, math.MaxUint32),
		} {
			b := summed(head, data)
			wantUnpack(t, b, data, api.Oob{}, api.ErrForm)
			b[16]++
			wantUnpack(t, b, data, api.Oob{}, api.ErrForm)
		}
	}
}

func TestUnpackOfEachKind(t *testing.T) {
	data := sectors()[2]
	for kind := range 256 {
		b := summed(headOf(byte(kind), 7, 9, 1), data)
		if kind >= 1 && kind <= 4 {
			wantUnpack(t, b, data, api.Oob{Kind: kind, Lba: 7, Stamp: 1<<32 + 9}, api.OK)
		} else {
			wantUnpack(t, b, data, api.Oob{}, api.ErrForm)
		}
	}
}

func TestUnpackOfAWrongSum(t *testing.T) {
	for _, o := range valid() {
		data := sectors()[2]
		b := packed(o, data)
		for i := 13; i < 17; i++ {
			other := slices.Clone(b)
			other[i] ^= 1
			wantUnpack(t, other, data, api.Oob{}, api.ErrSum)
		}
		wantUnpack(t, append(b[:13:13], 0, 0, 0, 0), data, api.Oob{}, api.ErrSum)
		wantUnpack(t, b, sectors()[0], api.Oob{}, api.ErrSum)
	}
}

// P5.3

func TestNewer(t *testing.T) {
	stamps := []int{math.MinInt, -1, 0, 1, 2, 1<<32 - 1, 1 << 32, 1 << 50, 1<<50 + 1, math.MaxInt}
	for i, a := range stamps {
		for j, b := range stamps {
			// Nothing but the stamps counts.
			one, other := api.Oob{Kind: 1, Lba: 9, Stamp: a}, api.Oob{Kind: 4, Lba: 3, Stamp: b}
			if oob.Newer(one, other) != (i > j) || oob.Newer(api.Oob{Stamp: a}, other) != (i > j) || oob.Newer(one, api.Oob{Kind: 9, Lba: -1, Stamp: b}) != (i > j) {
				t.Errorf("Newer of the stamps %d and %d: %v", a, b, i <= j)
			}
		}
	}
}

// P5.4

func TestThereAndBack(t *testing.T) {
	for _, o := range valid() {
		for _, data := range sectors() {
			b, err := oob.Pack(o, data)
			if len(b) != 17 || err != api.OK {
				t.Fatalf("Pack(%v, %v): %v, %d", o, data, b, err)
			}
			wantUnpack(t, b, data, o, api.OK)
		}
	}
}

func TestBackAndThere(t *testing.T) {
	many := 0
	for seed := range uint32(5000) {
		n := seed * 2654435761
		data := sectors()[seed%3]
		b := summed(headOf(byte(seed%6), n, n*3, n>>12), data)
		o, err := oob.Unpack(b, data)
		if err != api.OK {
			continue
		}
		many++
		if again, err := oob.Pack(o, data); !bytes.Equal(again, b) || err != api.OK {
			t.Fatalf("Unpack(%v, %v): %v, whose bytes are %v, %d", b, data, o, again, err)
		}
	}
	if many < 500 {
		t.Errorf("only %d were metadata", many)
	}
}

// Any change in a single byte is an error, of the metadata and of the sector.
func TestEachByteChanged(t *testing.T) {
	for _, o := range []api.Oob{{Kind: api.Data, Lba: 258, Stamp: 1}, {Kind: api.Trim}, {Kind: api.Pad, Lba: 1<<31 - 1, Stamp: 1 << 50}, {Kind: api.Head, Lba: 77, Stamp: 1<<49 + 12345}} {
		for _, data := range sectors() {
			b, _ := oob.Pack(o, data)
			wantBroken(t, b, func() (api.Oob, api.Errno) { return oob.Unpack(b, data) })
			wantBroken(t, data, func() (api.Oob, api.Errno) { return oob.Unpack(b, data) })
			wantUnpack(t, b, data, o, api.OK)
		}
	}
}

// wantBroken changes each byte in each way, and back.
func wantBroken(t *testing.T, b []byte, unpack func() (api.Oob, api.Errno)) {
	t.Helper()
	for i := range b {
		for change := 1; change < 256; change++ {
			b[i] ^= byte(change)
			if o, err := unpack(); o != (api.Oob{}) || err != api.ErrForm && err != api.ErrSum {
				t.Fatalf("byte %d of %v changed: %v, %d", i, b, o, err)
			}
			b[i] ^= byte(change)
		}
	}
}

// R3

func TestArgumentsStay(t *testing.T) {
	o := api.Oob{Kind: api.Data, Lba: 258, Stamp: 1}
	whole := bytes.Repeat([]byte{7}, 40)
	before := slices.Clone(whole)
	b, _ := oob.Pack(o, whole[3:19])
	if !bytes.Equal(whole, before) {
		t.Fatal("Pack has changed a sector, or what is beyond it")
	}
	wide := append(slices.Clone(b), 1, 2, 3)
	wideBefore := slices.Clone(wide)
	wantUnpack(t, wide[:17], whole[3:19], o, api.OK)
	wide[16]++
	wantUnpack(t, wide[:17], whole[3:19], api.Oob{}, api.ErrSum)
	wide[16]--
	if !bytes.Equal(whole, before) || !bytes.Equal(wide, wideBefore) {
		t.Fatal("Unpack has changed an argument")
	}
	for i := range b {
		b[i]++
	}
	_ = append(b, 1, 2, 3)
	if !bytes.Equal(whole, before) {
		t.Error("Pack shares bytes with its argument")
	}
	if again, _ := oob.Pack(o, whole[3:19]); !bytes.Equal(again, wide[:17]) {
		t.Error("two results share bytes")
	}
}
