package mark_test

import (
	"bytes"
	"encoding/binary"
	"math"
	"slices"
	"testing"

	"strake/api"
	"strake/mark"
)

// valid are marks with numbers about the edges.
func valid() []api.Mark {
	var l []api.Mark
	for _, line := range []int{0, 1, 3, 7, 32, 62, 63} {
		for _, wear := range []int{0, 1, 2, 3, 4, 5, 6, 7, 8, 9, 13, 14, 255, 256, 65535, 65536, 1<<24 - 1, 1 << 24, 0x01020304, 1<<31 - 2, 1<<31 - 1} {
			for _, stamp := range []int{0, 1, 255, 256, 1<<31 - 1, 1 << 31, 1<<32 - 1, 1 << 32, 1<<32 + 1, 1<<40 + 7, 0x2030405060708, 1<<50 - 1, 1 << 50} {
				l = append(l, api.Mark{Line: line, Wear: wear, Stamp: stamp})
			}
		}
	}
	return l
}

// wrong are marks of which one number, or several, may not be.
func wrong() []api.Mark {
	var l []api.Mark
	for _, line := range []int{math.MinInt, math.MinInt + 3, -256, -253, -64, -63, -1, 64, 65, 255, 256, 259, 1<<31 - 1, 1 << 31, 1 << 32, 1<<32 + 3, math.MaxInt} {
		l = append(l, api.Mark{Line: line, Wear: 9, Stamp: 1}, api.Mark{Line: line}, api.Mark{Line: line, Wear: -1, Stamp: -1})
	}
	for _, wear := range []int{math.MinInt, math.MinInt + 9, -1 << 32, -1 << 31, -7, -6, -1, 1 << 31, 1<<31 + 1, 1<<32 - 1, 1 << 32, 1<<32 + 9, math.MaxInt} {
		l = append(l, api.Mark{Line: 3, Wear: wear, Stamp: 1}, api.Mark{Wear: wear}, api.Mark{Line: 3, Wear: wear, Stamp: 1<<50 + 1})
	}
	for _, stamp := range []int{math.MinInt, math.MinInt + 1, -1 << 50, -1 << 32, -1, 1<<50 + 1, 1<<50 + 1<<32, 1 << 51, 1 << 62, math.MaxInt} {
		l = append(l, api.Mark{Line: 3, Wear: 9, Stamp: stamp}, api.Mark{Stamp: stamp}, api.Mark{Line: 64, Wear: 9, Stamp: stamp})
	}
	return l
}

// sectorOf are sixteen bytes of numbers that need not be valid.
func sectorOf(first string, line, letter byte, wear, low, high uint32) []byte {
	b := append([]byte(first), line, letter)
	for _, n := range []uint32{wear, low, high} {
		b = binary.LittleEndian.AppendUint32(b, n)
	}
	return b
}

// wanted is P6.1 as it is written, for the tests alone.
func wanted(m api.Mark) []byte {
	return sectorOf("HL", byte(m.Line), byte('A'+m.Wear%7), uint32(m.Wear), uint32(m.Stamp%(1<<32)), uint32(m.Stamp/(1<<32)))
}

func wantRead(t *testing.T, data []byte, m api.Mark, err api.Errno) {
	t.Helper()
	if got, gotErr := mark.Read(data); got != m || gotErr != err {
		t.Errorf("Read(%v): %v, %d, want %v, %d", data, got, gotErr, m, err)
	}
}

// P6.1

func TestRight(t *testing.T) {
	for _, m := range valid() {
		if !mark.Right(m) {
			t.Errorf("Right(%v): false", m)
		}
	}
	for _, m := range wrong() {
		if mark.Right(m) {
			t.Errorf("Right(%v): true", m)
		}
	}
}

func TestSector(t *testing.T) {
	for _, m := range valid() {
		if b, err := mark.Sector(m); !bytes.Equal(b, wanted(m)) || err != api.OK {
			t.Errorf("Sector(%v): %v, %d, want %v", m, b, err, wanted(m))
		}
	}
}

func TestSectorKnown(t *testing.T) {
	for _, c := range []struct {
		m    api.Mark
		want []byte
	}{
		{api.Mark{Line: 3, Wear: 9, Stamp: 1}, []byte{72, 76, 3, 67, 9, 0, 0, 0, 1, 0, 0, 0, 0, 0, 0, 0}},
		{api.Mark{}, []byte{72, 76, 0, 65, 0, 0, 0, 0, 0, 0, 0, 0, 0, 0, 0, 0}},
		{api.Mark{Line: 63, Wear: 6, Stamp: 1<<32 - 1}, []byte{72, 76, 63, 71, 6, 0, 0, 0, 255, 255, 255, 255, 0, 0, 0, 0}},
		{api.Mark{Line: 1, Wear: 7, Stamp: 1 << 32}, []byte{72, 76, 1, 65, 7, 0, 0, 0, 0, 0, 0, 0, 1, 0, 0, 0}},
		{api.Mark{Line: 63, Wear: 1<<31 - 1, Stamp: 1 << 50}, []byte{72, 76, 63, 66, 255, 255, 255, 127, 0, 0, 0, 0, 0, 0, 4, 0}},
		{api.Mark{Line: 2, Wear: 0x04030201, Stamp: 0x0002030405060708}, []byte{72, 76, 2, byte(65 + 0x04030201%7), 1, 2, 3, 4, 8, 7, 6, 5, 4, 3, 2, 0}},
	} {
		if got, err := mark.Sector(c.m); !bytes.Equal(got, c.want) || err != api.OK {
			t.Errorf("Sector(%v): %v, %d, want %v", c.m, got, err, c.want)
		}
	}
}

func TestSectorNothing(t *testing.T) {
	for _, m := range wrong() {
		if b, err := mark.Sector(m); len(b) != 0 || err != api.ErrArg {
			t.Errorf("Sector(%v): %v, %d", m, b, err)
		}
	}
}

// P6.2

func TestRead(t *testing.T) {
	for _, m := range valid() {
		wantRead(t, wanted(m), m, api.OK)
	}
}

func TestReadOfWrongLengths(t *testing.T) {
	whole := wanted(api.Mark{Line: 3, Wear: 9, Stamp: 1})
	wantRead(t, nil, api.Mark{}, api.ErrForm)
	for n := range whole {
		wantRead(t, whole[:n], api.Mark{}, api.ErrForm)
	}
	wantRead(t, append(slices.Clone(whole), 0), api.Mark{}, api.ErrForm)
	wantRead(t, slices.Concat(whole, whole), api.Mark{}, api.ErrForm)
}

func TestReadOfNoMark(t *testing.T) {
	wantRead(t, make([]byte, 16), api.Mark{}, api.ErrForm)
	wantRead(t, bytes.Repeat([]byte{255}, 16), api.Mark{}, api.ErrForm)
	for _, b := range [][]byte{
		sectorOf("LH", 3, 'C', 9, 1, 0),
		sectorOf("hl", 3, 'C', 9, 1, 0),
		sectorOf("H\x00", 3, 'C', 9, 1, 0),
		sectorOf("\x00L", 3, 'C', 9, 1, 0),
		sectorOf("HL", 64, 'C', 9, 1, 0),
		sectorOf("HL", 128, 'C', 9, 1, 0),
		sectorOf("HL", 255, 'C', 9, 1, 0),
		sectorOf("HL", 3, 'c', 9, 1, 0),
		sectorOf("HL", 3, 2, 9, 1, 0),
		sectorOf("HL", 3, 'H', 7, 1, 0),
		sectorOf("HL", 3, '@', 6, 1, 0),
		sectorOf("HL", 3, byte('A'+1<<31%7), 1<<31, 1, 0),
		sectorOf("HL", 3, byte('A'+math.MaxUint32%7), math.MaxUint32, 1, 0),
		sectorOf("HL", 3, 'C', 9, 1, 1<<18),
		sectorOf("HL", 3, 'C', 9, math.MaxUint32, 1<<18),
		sectorOf("HL", 3, 'C', 9, 0, 1<<18+1),
		sectorOf("HL", 3, 'C', 9, 0, 1<<31-1),
		sectorOf("HL", 3, 'C', 9, 0, 1<<31),
		sectorOf("HL", 3, 'C', 9, math.MaxUint32, math.MaxUint32),
	} {
		wantRead(t, b, api.Mark{}, api.ErrForm)
	}
}

// A letter goes with the wear alone: every other one is wrong.
func TestReadOfEachLetter(t *testing.T) {
	for wear := range 20 {
		for letter := range 256 {
			b := sectorOf("HL", 3, byte(letter), uint32(wear), 1, 0)
			if letter == 'A'+wear%7 {
				wantRead(t, b, api.Mark{Line: 3, Wear: wear, Stamp: 1}, api.OK)
			} else {
				wantRead(t, b, api.Mark{}, api.ErrForm)
			}
		}
	}
}

func TestReadOfEachLine(t *testing.T) {
	for line := range 256 {
		b := sectorOf("HL", byte(line), 'C', 9, 1, 0)
		if line <= 63 {
			wantRead(t, b, api.Mark{Line: line, Wear: 9, Stamp: 1}, api.OK)
		} else {
			wantRead(t, b, api.Mark{}, api.ErrForm)
		}
	}
}

func TestReadOfOtherFirstCharacters(t *testing.T) {
	for i, right := range []byte("HL") {
		for x := range 256 {
			b := sectorOf("HL", 3, 'C', 9, 1, 0)
			b[i] = byte(x)
			if byte(x) != right {
				wantRead(t, b, api.Mark{}, api.ErrForm)
			}
		}
	}
}

// P6.3

func TestOob(t *testing.T) {
	for _, m := range valid() {
		if o, err := mark.Oob(m); o != (api.Oob{Kind: 4, Lba: m.Line, Stamp: m.Stamp}) || err != api.OK {
			t.Errorf("Oob(%v): %v, %d", m, o, err)
		}
	}
	for _, m := range wrong() {
		if o, err := mark.Oob(m); o != (api.Oob{}) || err != api.ErrArg {
			t.Errorf("Oob(%v): %v, %d", m, o, err)
		}
	}
}

// P6.4

func TestThereAndBack(t *testing.T) {
	for _, m := range valid() {
		b, err := mark.Sector(m)
		if len(b) != 16 || err != api.OK {
			t.Fatalf("Sector(%v): %v, %d", m, b, err)
		}
		wantRead(t, b, m, api.OK)
	}
}

func TestBackAndThere(t *testing.T) {
	many := 0
	for seed := range uint32(20000) {
		n := seed * 2654435761
		b := sectorOf("HL", byte(n>>25), byte('A'+n>>7%7), n>>7, n*3, n>>13)
		m, err := mark.Read(b)
		if err != api.OK {
			continue
		}
		many++
		if again, err := mark.Sector(m); !bytes.Equal(again, b) || err != api.OK {
			t.Fatalf("Read(%v): %v, whose sector is %v, %d", b, m, again, err)
		}
	}
	if many < 1000 {
		t.Errorf("only %d were marks", many)
	}
}

func TestSectorsAreTheMarks(t *testing.T) {
	of := map[string]api.Mark{}
	for _, m := range valid() {
		b, _ := mark.Sector(m)
		if other, ok := of[string(b)]; ok {
			t.Errorf("%v and %v have the same sector %v", m, other, b)
		}
		of[string(b)] = m
		if again, _ := mark.Sector(m); !bytes.Equal(again, b) {
			t.Errorf("%v has the sectors %v and %v", m, b, again)
		}
	}
}

// R3

func TestArgumentsStay(t *testing.T) {
	m := api.Mark{Line: 3, Wear: 9, Stamp: 1}
	whole := bytes.Repeat([]byte{7}, 40)
	copy(whole[5:], wanted(m))
	before := slices.Clone(whole)
	wantRead(t, whole[5:21], m, api.OK)
	wantRead(t, whole[6:22], api.Mark{}, api.ErrForm)
	wantRead(t, whole[5:22], api.Mark{}, api.ErrForm)
	if !bytes.Equal(whole, before) {
		t.Error("Read has changed a sector, or what is beyond it")
	}
	b, _ := mark.Sector(m)
	for i := range b {
		b[i]++
	}
	if again, _ := mark.Sector(m); !bytes.Equal(again, wanted(m)) {
		t.Error("two results share bytes")
	}
}
