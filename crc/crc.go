// Package crc is layer 2, sums: see shared/doc/02-crc.md.
package crc

// fourBits is what four bits that fall out of a state put to it.
var fourBits = [16]uint32{
	0x00000000, 0x1db71064, 0x3b6e20c8, 0x26d930ac,
	0x76dc4190, 0x6b6b51f4, 0x4db26158, 0x5005713c,
	0xedb88320, 0xf00f9344, 0xd6d6a3e8, 0xcb61b38c,
	0x9b64c2b0, 0x86d3d2d4, 0xa00ae278, 0xbdbdf21c,
}

// Sum is the sum of some bytes.
func Sum(s string) uint32 { return Extend(0, s) }

// Extend is the sum of the bytes that a sum was made of, with some more behind them.
func Extend(sum uint32, s string) uint32 {
	state := ^sum
	for i := range len(s) {
		state ^= uint32(s[i])
		state = shiftFour(shiftFour(state))
	}
	return ^state
}

// shiftFour moves a state right by four bits at once.
func shiftFour(state uint32) uint32 {
	return state>>4 ^ fourBits[state&15]
}
