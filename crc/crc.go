// Package crc is layer 1: checksums, CRC-32 as Ethernet has it.
package crc

// polynomial has its bits in reversed order, as the bytes are taken from their lowest bit on.
const polynomial = 0xedb88320

// Add continues a checksum: sum is that of the bytes before b.
func Add(sum uint32, b string) uint32 {
	table := byteSums()
	x := ^sum
	for i := range len(b) {
		x = x>>8 ^ table[byte(x)^b[i]]
	}
	return ^x
}

// Sum returns the checksum of bytes.
func Sum(b string) uint32 { return Add(0, b) }

// byteSums returns what eight shifts make of each byte.
//
// It is made anew for each call, as it is too long for a package-level table. Shifts are linear:
// only the bytes with one bit need them, and every other sum is the xor of two that are known.
func byteSums() [256]uint32 {
	var table [256]uint32
	// Seven shifts bring the bit 128 down to 1, so the eighth one gives its sum; each lower bit takes one more.
	sum := uint32(1)
	for bit := 128; bit > 0; bit /= 2 {
		sum = shift(sum)
		for known := 0; known < len(table); known += 2 * bit {
			table[known+bit] = table[known] ^ sum
		}
	}
	return table
}

// shift takes one bit off a sum.
func shift(x uint32) uint32 {
	if x&1 == 1 {
		return x>>1 ^ polynomial
	}
	return x >> 1
}
