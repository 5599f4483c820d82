// Package crc computes CRC-32 checksums with the IEEE polynomial: layer 1, see shared/doc/01-crc.md.
package crc

// polynomial is the IEEE one with its bits reversed, since a step shifts to the right.
const polynomial = 0xEDB88320

// Sum is the checksum of bytes.
func Sum(b []byte) uint32 { return Add(0, b) }

// Add is the checksum of earlier bytes, of which only the checksum is given, followed by b.
func Add(sum uint32, b []byte) uint32 {
	c := ^sum
	for _, x := range b {
		c = addByte(c, x)
	}
	return ^c
}

func addByte(c uint32, x byte) uint32 {
	c ^= uint32(x)
	for range 8 {
		c = step(c)
	}
	return c
}

func step(c uint32) uint32 {
	if c&1 == 1 {
		return c>>1 ^ polynomial
	}
	return c >> 1
}
