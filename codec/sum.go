package codec

import (
	"strings"

	"waybill/api"
)

const (
	hexDigits = "0123456789abcdef"
	sumDigits = 8
)

// Sum is the check sum of bytes; Hex a sum as eight digits; TakeHex reads these.
func Sum(b []byte) uint32 {
	r := ^uint32(0)
	for _, c := range b {
		r ^= uint32(c)
		for range 8 {
			out := r & 1
			r >>= 1
			if out == 1 {
				r ^= 0xEDB88320
			}
		}
	}
	return ^r
}

func Hex(n uint32) string {
	var b [sumDigits]byte
	for i := range b {
		b[sumDigits-1-i] = hexDigits[n&15]
		n >>= 4
	}
	return string(b[:])
}

func TakeHex(b []byte) (uint32, api.Errno) {
	if len(b) < sumDigits {
		return 0, api.ErrCodecShort
	}
	n := uint32(0)
	for _, c := range b[:sumDigits] {
		d := strings.IndexByte(hexDigits, c)
		if d < 0 {
			return 0, api.ErrCodecForm
		}
		n = n<<4 | uint32(d)
	}
	return n, api.OK
}
