// Package leb: Numbers as bytes: see doc/01-leb.md.
package leb

import (
	"reprise/api"
)

const (
	bitsPerByte = 7
	lowBits     = 0x7f
	moreFollows = 0x80
	// Nine bytes carry 63 bits: of a tenth one a single bit is left.
	tenthIndex = 9
	tenthMost  = 1
)

// Put answers n's bytes, in its only form.
func Put(n uint64) []byte {
	var out []byte
	for n >= moreFollows {
		out = append(out, byte(n&lowBits)|moreFollows)
		n >>= bitsPerByte
	}
	return append(out, byte(n))
}

// Read answers the number at b's beginning, and how many bytes it has.
func Read(b []byte) (uint64, int, api.Errno) {
	n := uint64(0)
	for i, c := range b {
		// This also ends the loop by the tenth byte, so that no shift goes past 63.
		if i == tenthIndex && c > tenthMost {
			return 0, 0, api.ErrBytes
		}
		n |= uint64(c&lowBits) << uint(bitsPerByte*i)
		if c >= moreFollows {
			continue
		}
		if c == 0 && i > 0 {
			// A shorter form says the same number.
			return 0, 0, api.ErrBytes
		}
		return n, i + 1, api.OK
	}
	return 0, 0, api.ErrShort
}

// Zig answers a number without a sign for each one with a sign, small ones for those near 0.
func Zig(n int64) uint64 {
	// The shift of a number below 0 brings in ones: all bits are turned round then.
	return uint64(n)<<1 ^ uint64(n>>63)
}

// Zag answers the number that Zig turned into n.
func Zag(n uint64) int64 {
	return int64(n>>1) ^ -int64(n&1)
}

// PutBytes answers b with its length ahead of it.
func PutBytes(b []byte) []byte {
	return append(Put(uint64(len(b))), b...)
}

// ReadBytes answers the bytes at b's beginning that PutBytes wrote, and how many bytes they are with their length.
func ReadBytes(b []byte, most int) ([]byte, int, api.Errno) {
	length, size, errno := Read(b)
	if errno != api.OK {
		return nil, 0, errno
	}
	// Lengths are held against each other as uint64: one may be too great for an int.
	if length > uint64(max(most, 0)) {
		return nil, 0, api.ErrLong
	}
	if length > uint64(len(b)-size) {
		return nil, 0, api.ErrShort
	}
	end := size + int(length)
	return append([]byte(nil), b[size:end]...), end, api.OK
}
