package codec_test

import (
	"bytes"
	"fmt"
	"hash/crc32"
	"math/rand/v2"
	"strings"
	"testing"

	"waybill/api"
	"waybill/codec"
)

func takesHex(t *testing.T, s string, n uint32, e api.Errno) {
	t.Helper()
	if gotN, gotE := codec.TakeHex([]byte(s)); gotN != n || gotE != e {
		t.Errorf("TakeHex(%q): %#x %v, not %#x %v", s, gotN, gotE, n, e)
	}
}

func TestP2_3Sum(t *testing.T) {
	for _, x := range []struct {
		b    string
		want uint32
	}{
		{"", 0},
		{"\x00", 0xD202EF8D},
		{"\xff", 0xFF000000},
		{"a", 0xE8B7BE43},
		{"abc", 0x352441C2},
		{"123456789", 0xCBF43926},
		{"\x00\x00\x00\x00", 0x2144DF1C},
		{"\xff\xff\xff\xff", 0xFFFFFFFF},
	} {
		if n := codec.Sum([]byte(x.b)); n != x.want {
			t.Errorf("Sum(%q): %#x, not %#x", x.b, n, x.want)
		}
	}
	if codec.Sum(nil) != 0 {
		t.Error("Sum(nil):", codec.Sum(nil))
	}
}

func TestP2_3SumIsTheUsualOne(t *testing.T) {
	for c := range 256 {
		b := []byte{byte(c)}
		if n := codec.Sum(b); n != crc32.ChecksumIEEE(b) {
			t.Errorf("Sum(%q): %#x, not %#x", b, n, crc32.ChecksumIEEE(b))
		}
	}
	for _, s := range append(texts(), strings.Repeat("waybill\r\n", 1<<17)) {
		if n, usual := codec.Sum([]byte(s)), crc32.ChecksumIEEE([]byte(s)); n != usual {
			t.Errorf("Sum(%s): %#x, not %#x", short(s), n, usual)
		}
	}
}

func TestP2_3SumLeavesItsBytes(t *testing.T) {
	b := []byte("123456789")
	codec.Sum(b)
	if string(b) != "123456789" || codec.Sum(b) != 0xCBF43926 {
		t.Errorf("%q %#x", b, codec.Sum(b))
	}
}

// sums are the edges, each bit alone, and some between.
func sums() []uint32 {
	l := []uint32{0, 1, 9, 10, 15, 16, 0x7FFFFFFF, 0xFFFFFFFF, 0xCBF43926, 0x01234567, 0x89ABCDEF}
	for i := range 32 {
		l = append(l, 1<<i)
	}
	r := rand.New(rand.NewPCG(2, 3))
	for range 500 {
		l = append(l, r.Uint32())
	}
	return l
}

func TestP2_3Hex(t *testing.T) {
	for n, want := range map[uint32]string{0: "00000000", 10: "0000000a", 0x01234567: "01234567", 0x89ABCDEF: "89abcdef", 0xFFFFFFFF: "ffffffff", 0x80000000: "80000000"} {
		if s := codec.Hex(n); s != want {
			t.Errorf("Hex(%#x): %q, not %q", n, s, want)
		}
	}
	for _, n := range sums() {
		if s := codec.Hex(n); s != fmt.Sprintf("%08x", n) {
			t.Errorf("Hex(%#x): %q", n, s)
		}
	}
}

func TestP2_3TakeHex(t *testing.T) {
	for _, x := range []struct {
		b string
		n uint32
		e api.Errno
	}{
		{"00000000", 0, api.OK},
		{"0000000a", 10, api.OK},
		{"01234567", 0x01234567, api.OK},
		{"89abcdef", 0x89ABCDEF, api.OK},
		{"ffffffff", 0xFFFFFFFF, api.OK},
		{"0000000ax", 10, api.OK},
		{"0000000a\n", 10, api.OK},
		{"0000000a1", 10, api.OK},

		{"", 0, api.ErrCodecShort},
		{"0", 0, api.ErrCodecShort},
		{"0000000", 0, api.ErrCodecShort},
		{"x", 0, api.ErrCodecShort},
		{"xxxxxxx", 0, api.ErrCodecShort},

		{"0000000A", 0, api.ErrCodecForm},
		{"0000000F", 0, api.ErrCodecForm},
		{"0000000g", 0, api.ErrCodecForm},
		{"0000000 ", 0, api.ErrCodecForm},
		{"0x000000", 0, api.ErrCodecForm},
		{"-0000001", 0, api.ErrCodecForm},
		{"+0000001", 0, api.ErrCodecForm},
		{" 0000001", 0, api.ErrCodecForm},
		{"0000_001", 0, api.ErrCodecForm},
	} {
		takesHex(t, x.b, x.n, x.e)
	}
}

func TestP2_3TakeHexWithEachDigitWrong(t *testing.T) {
	const digits = "0123456789abcdef"
	for i := range 8 {
		for c := range 256 {
			b := []byte("cbf43926")
			b[i] = byte(c)
			n, e := codec.TakeHex(b)
			d := strings.IndexByte(digits, byte(c))
			if d < 0 && (n != 0 || e != api.ErrCodecForm) {
				t.Errorf("TakeHex(%q): %#x %v", b, n, e)
			}
			shift := 4 * (7 - i)
			if d >= 0 && (n != 0xCBF43926&^(15<<shift)|uint32(d)<<shift || e != api.OK) {
				t.Errorf("TakeHex(%q): %#x %v", b, n, e)
			}
		}
	}
}

func TestP2_4SumsAreReadAgain(t *testing.T) {
	for _, n := range sums() {
		s := codec.Hex(n)
		for _, behind := range behinds() {
			takesHex(t, s+behind, n, api.OK)
		}
		for i := range len(s) {
			takesHex(t, s[:i], 0, api.ErrCodecShort)
		}
	}
}

func TestP2_5OneByteTurned(t *testing.T) {
	for _, s := range []string{"x", "123456789", "W1;t7;f0:,n1;rP3:a@b,d0:,", strings.Repeat("\x00", 40), strings.Repeat("\xff", 40)} {
		b := []byte(s)
		sum := codec.Sum(b)
		for i := range b {
			for turn := 1; turn < 256; turn++ {
				b[i] ^= byte(turn)
				if codec.Sum(b) == sum {
					t.Errorf("%q has the sum of %q", b, s)
				}
				b[i] ^= byte(turn)
			}
		}
	}
}

func TestP2_5OneByteTurnedOfMany(t *testing.T) {
	b := bytes.Repeat([]byte("a line of a great message\r\n"), 1000)
	sum := codec.Sum(b)
	for i := 0; i < len(b); i += 199 {
		for _, turn := range []byte{1, 0x10, 0x80, 0xFF} {
			b[i] ^= turn
			if codec.Sum(b) == sum {
				t.Errorf("byte %d turned by %#x: the same sum", i, turn)
			}
			b[i] ^= turn
		}
	}
}
