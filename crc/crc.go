// Package crc is layer 1: see shared/doc/01-crc.md.
package crc

// A row is read as a polynomial over 0 and 1 whose highest bit stands at the power 0: so a place to the lower side is a factor x, and what falls out comes back as poly.
const (
	poly    uint32 = 0xedb88320
	perByte uint32 = 1 << (31 - 8) // x to the 8th: what a byte 0 multiplies a row by
)

// halfByte is what each half of a byte puts on a row as it falls out: by halves the table stays short, and still spares the single bits.
var halfByte = [16]uint32{
	0x00000000, 0x1db71064, 0x3b6e20c8, 0x26d930ac,
	0x76dc4190, 0x6b6b51f4, 0x4db26158, 0x5005713c,
	0xedb88320, 0xf00f9344, 0xd6d6a3e8, 0xcb61b38c,
	0x9b64c2b0, 0x86d3d2d4, 0xa00ae278, 0xbdbdf21c,
}

// Sum is the sum of bytes.
func Sum(b []byte) uint32 { return More(0, b) }

// More is the sum of some bytes, and of others behind them.
func More(sum uint32, b []byte) uint32 {
	row := ^sum
	for _, c := range b {
		row ^= uint32(c)
		row = row>>4 ^ halfByte[row&15]
		row = row>>4 ^ halfByte[row&15]
	}
	return ^row
}

// Join is the sum of two rows of bytes, by their sums.
func Join(a, b uint32, n int) uint32 {
	if n < 0 {
		n = 0
	}
	return carry(a, uint64(n)) ^ b
}

// carry squares its way up to n bytes 0, since one by one the greatest n would never be reached.
func carry(row uint32, n uint64) uint32 {
	for factor := perByte; n > 0; n >>= 1 {
		if n&1 == 1 {
			row = times(row, factor)
		}
		factor = times(factor, factor)
	}
	return row
}

// times is the product of two rows as polynomials.
func times(a, b uint32) uint32 {
	product := uint32(0)
	for ; a != 0; a <<= 1 {
		if a>>31 == 1 {
			product ^= b
		}
		b = step(b)
	}
	return product
}

// step is a row one place to the lower side.
func step(row uint32) uint32 {
	if row&1 == 1 {
		return row>>1 ^ poly
	}
	return row >> 1
}
