package cidr_test

import (
	"fmt"
	"strings"
	"testing"

	"waybill/api"
	"waybill/cidr"
)

func TestP7_1Four(t *testing.T) {
	isAddr(t, "1.2.3.4", four(32, 1, 2, 3, 4))
	isAddr(t, "0.0.0.0", four(32))
	isAddr(t, "255.255.255.255", four(32, 255, 255, 255, 255))
	isAddr(t, "10.99.100.249", four(32, 10, 99, 100, 249))
	isAddr(t, "0.10.0.200", four(32, 0, 10, 0, 200))
	for at := range 4 {
		for n := range 1000 {
			l := []string{"0", "0", "0", "0"}
			l[at] = fmt.Sprint(n)
			if n > 255 {
				noAddr(t, strings.Join(l, "."))
				continue
			}
			want := four(32)
			want.Addr[at] = byte(n)
			isAddr(t, strings.Join(l, "."), want)
		}
		for _, bad := range []string{"", "00", "000", "01", "010", "001", "0000", "0001", "1000", "2550", "0255", "256", "999", "4294967296", "18446744073709551617", strings.Repeat("1", 100), " 1", "1 ", "+1", "-1", "-0", "1a", "a", "0x1", "1e1", "1_0", "\xb9", "\u0661", "\xff", "1\x00", "\n1", "1,", "/", ":", ";"} {
			l := []string{"1", "2", "3", "4"}
			l[at] = bad
			noAddr(t, strings.Join(l, "."))
		}
	}
}

func TestP7_1FourDots(t *testing.T) {
	noAddr(t, "", ".", "..", "...", "....", "1", "1.", ".1", "1.2", "1.2.3", "1.2.3.", "1.2.3.4.", ".1.2.3.4", ".1.2.3", "1..2.3", "1..2.3.4", "1.2..3.4", "1.2.3..4", "1.2.3.4..", "..1.2.3.4", "1.2.3.4.5", "0.0.0.0.0", "1.2.3.4.5.6.7.8", "16909060", "1,2,3,4", "1.2.3 .4", " 1.2.3.4", "1.2.3.4 ", "1.2.3.4\n", "\t1.2.3.4", "1.2.3.4\x00", "[1.2.3.4]", "1.2.3.4:25", "1.2.3:4", "x", "localhost", strings.Repeat("1.2.3.4", 1<<16), strings.Repeat("1.", 1<<16), strings.Repeat(".", 1<<20))
}

func TestP7_1Six(t *testing.T) {
	isAddr(t, "1:2:3:4:5:6:7:8", groups(1, 2, 3, 4, 5, 6, 7, 8))
	isAddr(t, "0:0:0:0:0:0:0:0", six(128))
	isAddr(t, "ffff:FFFF:ffff:FFFF:ffff:FFFF:fFfF:FfFf", groups(65535, 65535, 65535, 65535, 65535, 65535, 65535, 65535))
	isAddr(t, "0123:4567:89ab:cdef:0123:4567:89AB:CDEF", groups(0x123, 0x4567, 0x89ab, 0xcdef, 0x123, 0x4567, 0x89ab, 0xcdef))
	isAddr(t, "0001:002:03:4:00a0:b0:0c00:d000", groups(1, 2, 3, 4, 0xa0, 0xb0, 0xc00, 0xd000))
	isAddr(t, "0000:0000:0000:0000:0000:0000:0000:0001", groups(0, 0, 0, 0, 0, 0, 0, 1))
	noAddr(t, "1:2:3:4:5:6:7", "1:2:3:4:5:6:7:8:9", "1:2:3:4:5:6:7:8:9:a", "1", "1:2", "0", "a", "abcd", "1:", ":1", ":", "1:2:3:4:5:6:7:", ":2:3:4:5:6:7:8", "1:2:3:4:5:6:7:8:", ":1:2:3:4:5:6:7:8", "12345678", "1.2.3.4.5.6.7.8", "1-2-3-4-5-6-7-8")
}

// TestP7_1Groups puts each of these in the place of each group.
func TestP7_1Groups(t *testing.T) {
	for at := range 8 {
		for text, want := range map[string]uint16{"0": 0, "00": 0, "000": 0, "0000": 0, "1": 1, "01": 1, "0001": 1, "9": 9, "a": 10, "f": 15, "A": 10, "F": 15, "aF": 175, "Fa": 250, "b0b": 0xb0b, "9999": 0x9999, "ffff": 0xffff, "FFFF": 0xffff, "BEEf": 0xbeef, "c0De": 0xc0de} {
			l := strings.Split("0:0:0:0:0:0:0:0", ":")
			l[at] = text
			n := groups(0, 0, 0, 0, 0, 0, 0, 0)
			n.Addr[2*at], n.Addr[2*at+1] = byte(want>>8), byte(want)
			isAddr(t, strings.Join(l, ":"), n)
		}
		for _, bad := range []string{"00000", "00001", "10000", "12345", "ffff0", "fffff", "ffffffff", strings.Repeat("0", 1000), "g", "G", "z", "`", "@", "/", "12g", "g12", "1 ", " 1", "+1", "-1", "0x1", "x1", "1_0", "_1", "1.0", "\xff", "\u0661", "1\x00", "\n"} {
			l := strings.Split("1:2:3:4:5:6:7:8", ":")
			l[at] = bad
			noAddr(t, strings.Join(l, ":"), bad+"::", "::"+bad, "1::"+bad+":2", "1:"+bad+"::2")
		}
	}
}

// TestP7_1Shortened has a `::` in the place of each row of groups.
func TestP7_1Shortened(t *testing.T) {
	l := strings.Split("1:2:3:4:5:6:7:8", ":")
	for from := range 9 {
		for to := from; to <= 8; to++ {
			s := strings.Join(l[:from], ":") + "::" + strings.Join(l[to:], ":")
			if from == to {
				noAddr(t, s)
				continue
			}
			n := groups(1, 2, 3, 4, 5, 6, 7, 8)
			clear(n.Addr[2*from : 2*to])
			isAddr(t, s, n)
			noAddr(t, s+":", ":"+s, s+"::", "::"+s, s+":::", strings.Replace(s, "::", ":::", 1), strings.Replace(s, "::", "::::", 1), strings.Replace(s, "::", ": :", 1))
		}
	}
	isAddr(t, "::", six(128))
	isAddr(t, "::1", groups(0, 0, 0, 0, 0, 0, 0, 1))
	isAddr(t, "1::", groups(1))
	isAddr(t, "0::0", six(128))
	isAddr(t, "::0", six(128))
	isAddr(t, "0::", six(128))
	isAddr(t, "0:0:0:0:0:0:0::", six(128))
	isAddr(t, "::0:0:0:0:0:0:0", six(128))
	isAddr(t, "0:0:0::0:0:0:0", six(128))
	isAddr(t, "2001:DB8::0:1", groups(0x2001, 0xdb8, 0, 0, 0, 0, 0, 1))
	noAddr(t, "1::2::3", "::1::", "::::", ":::", ":::1", "1:::", "1:::2", "::1:2:3:4:5:6:7:8", "1:2:3:4:5:6:7:8::", "1:2:3:4::5:6:7:8", "::0:0:0:0:0:0:0:0", "0:0:0:0:0:0:0:0::", "0:0:0:0::0:0:0:0", "1:2:3:4:5:6:7:8::9", "1:2:3:4:5::6:7:8:9", "::1:", ":1::", ":1::2", "1::2:", "::"+strings.Repeat("1:", 1<<16), strings.Repeat(":", 1<<20), strings.Repeat("::", 1<<16)+"1", strings.Repeat("1:", 1<<20)+"1")
}

func TestP7_1FourWithinSix(t *testing.T) {
	noAddr(t, "::1.2.3.4", "::ffff:1.2.3.4", "1:2:3:4:5:6:1.2.3.4", "1.2.3.4::", "1.2.3.4:5:6:7:8:9:a", "64:ff9b::1.2.3.4", "::1.2", "::1%eth0", "[::1]", "fe80::1%1", "IPv6:::1")
}

func TestP7_1AddrIsNoRange(t *testing.T) {
	for _, s := range []string{"1.2.3.4/32", "0.0.0.0/0", "10.0.0.0/8", "::/0", "::1/128", "1.2.3.4/", "/", "::/", "/8"} {
		notAddr(t, s)
	}
}

func TestP7_1Bits(t *testing.T) {
	for bits := range 1000 {
		end := fmt.Sprintf("/%d", bits)
		if bits <= 32 {
			isRange(t, "0.0.0.0"+end, four(bits))
		} else {
			noRange(t, "0.0.0.0"+end)
		}
		if bits <= 128 {
			isRange(t, "::"+end, six(bits))
		} else {
			noRange(t, "::"+end)
		}
	}
	isRange(t, "1.2.3.4/32", four(32, 1, 2, 3, 4))
	isRange(t, "10.0.0.0/8", four(8, 10))
	isRange(t, "1:2:3:4:5:6:7:8/128", groups(1, 2, 3, 4, 5, 6, 7, 8))
	isRange(t, "FE80::/10", six(10, 0xfe, 0x80))
	isRange(t, "1:0000::0:0/16", six(16, 0, 1))
}

func TestP7_1BitsAsText(t *testing.T) {
	for _, s := range []string{"", "00", "000", "01", "08", "008", "032", "0128", "0000", "1000", "1280", "0032", "4294967296", "4294967328", "18446744073709551616", "18446744073709551624", strings.Repeat("0", 1000), strings.Repeat("1", 1<<20), " ", " 8", "8 ", "+8", "-8", "-0", "-1", "8a", "a", "0x8", "1e1", "8.", "8.0", "1_0", "/", "/8", "8/", "8/8", "0/0", "8//", "\xb8", "\u0668", "255.0.0.0", "ffff::", "8\n", "8\x00"} {
		noRange(t, "0.0.0.0/"+s, "::/"+s)
	}
	noRange(t, "/", "/0", "/8", "/32", "//", "8", "0/0", "/0.0.0.0", "/::", "0.0.0/0", "0.0.0.0.0/0", "0.0.0.0 /0", "0.0.0.0/ 0", ":/0", ":::/0", "0.0.0.256/0", "00.0.0.0/0", "10/8", "10.0/16", "0.0.0.0/0,", "::/0 ", " ::/0", "::/0/0", "::/0/", "0.0.0.0\\0")
}

// TestP7_1BitsBehind sets each bit alone: behind the first ones none may be, among them each may.
func TestP7_1BitsBehind(t *testing.T) {
	for at := range 128 {
		addr := six(128)
		addr.Addr[at/8] = 1 << (7 - at%8)
		ofSix, _ := cidr.Show(addr)
		ofFour := fmt.Sprintf("%d.%d.%d.%d", addr.Addr[0], addr.Addr[1], addr.Addr[2], addr.Addr[3])
		for bits := range 129 {
			end := fmt.Sprintf("/%d", bits)
			if bits > at {
				isRange(t, ofSix+end, six(bits, addr.Addr[:]...))
			} else {
				noRange(t, ofSix+end)
			}
			if at >= 32 || bits > 32 {
				continue
			}
			if bits > at {
				isRange(t, ofFour+end, four(bits, addr.Addr[:4]...))
			} else {
				noRange(t, ofFour+end)
			}
		}
	}
}

// TestP7_1BitsBehindAtEdges is a row of bits, cut ahead of, at and behind each edge of a byte.
func TestP7_1BitsBehindAtEdges(t *testing.T) {
	isRange(t, "255.255.255.255/32", four(32, 255, 255, 255, 255))
	isRange(t, "255.255.255.254/31", four(31, 255, 255, 255, 254))
	isRange(t, "255.255.255.0/24", four(24, 255, 255, 255))
	isRange(t, "255.255.128.0/17", four(17, 255, 255, 128))
	isRange(t, "255.254.0.0/15", four(15, 255, 254))
	isRange(t, "255.0.0.0/8", four(8, 255))
	isRange(t, "128.0.0.0/1", four(1, 128))
	noRange(t, "255.255.255.255/31", "255.255.255.254/30", "255.255.255.0/23", "255.255.128.0/16", "255.254.0.0/14", "255.0.0.0/7", "128.0.0.0/0", "0.0.0.1/0", "0.0.0.1/31", "10.0.0.1/8", "10.1.0.0/15", "10.0.0.128/24", "10.0.1.0/23")
	noRange(t, "ffff:ffff:ffff:ffff:ffff:ffff:ffff:ffff/127", "8000::/0", "::1/127", "::1/0", "::1/64", "fe80::/8", "fe80::/7", "1::/15", "ff00::/7", "ff80::/8", "0:0:0:0:8000::/64", "0:0:0:1::/63")
}

func TestP7_1Right(t *testing.T) {
	for bits := -300; bits <= 300; bits++ {
		if cidr.Right(four(bits)) != (bits >= 0 && bits <= 32) || cidr.Right(six(bits)) != (bits >= 0 && bits <= 128) {
			t.Errorf("Right: of %d bits: %v, %v", bits, cidr.Right(four(bits)), cidr.Right(six(bits)))
		}
	}
	const most = int(^uint(0) >> 1)
	for _, bits := range []int{most, -most, -most - 1, 1 << 32, 1<<32 + 8, -1 << 32, 256, 257, 1 << 16} {
		notRight(t, four(bits), six(bits), four(bits, 10), six(bits, 0xfe, 0x80))
	}
	all := [16]byte{255, 255, 255, 255, 255, 255, 255, 255, 255, 255, 255, 255, 255, 255, 255, 255}
	if !cidr.Right(six(128, all[:]...)) || !cidr.Right(four(32, all[:4]...)) || !cidr.Right(api.Net{}) {
		t.Error("Right: false")
	}
	notRight(t, four(33), four(128), four(-1), six(129), six(-1), six(127, all[:]...), four(31, all[:4]...), four(32, all[:]...), four(32, all[:5]...), four(-8, all[:]...))
}

// TestP7_1RightBehindFour: of IPv4 no byte behind the fourth may be other than 0.
func TestP7_1RightBehindFour(t *testing.T) {
	for at := 4; at < 16; at++ {
		for _, x := range []byte{1, 128, 255} {
			n := four(32, 1, 2, 3, 4)
			n.Addr[at] = x
			notRight(t, n)
			n.Bits = 8 * (at + 1)
			notRight(t, n)
			n = four(0)
			n.Addr[at] = x
			notRight(t, n)
		}
	}
}

// TestP7_1RightEachBit: each bit alone, and each number of first ones.
func TestP7_1RightEachBit(t *testing.T) {
	for at := range 128 {
		for bits := range 129 {
			n := six(bits)
			n.Addr[at/8] = 1 << (7 - at%8)
			if cidr.Right(n) != (at < bits) {
				t.Errorf("bit %d of %d: Right: %v", at, bits, cidr.Right(n))
			}
			n.Six = false
			if cidr.Right(n) != (at < bits && bits <= 32) {
				t.Errorf("bit %d of %d of IPv4: Right: %v", at, bits, cidr.Right(n))
			}
		}
	}
}
