package cidr_test

import (
	"fmt"
	"slices"
	"strings"
	"testing"

	"waybill/api"
	"waybill/cidr"
)

func TestP7_2ShowFour(t *testing.T) {
	shows(t, four(32, 1, 2, 3, 4), "1.2.3.4")
	shows(t, four(32), "0.0.0.0")
	shows(t, four(32, 255, 10, 100, 9), "255.10.100.9")
	shows(t, four(0), "0.0.0.0/0")
	shows(t, api.Net{}, "0.0.0.0/0")
	shows(t, four(1, 128), "128.0.0.0/1")
	shows(t, four(8, 10), "10.0.0.0/8")
	shows(t, four(31, 255, 255, 255, 254), "255.255.255.254/31")
	for bits := range 32 {
		shows(t, four(bits), fmt.Sprintf("0.0.0.0/%d", bits))
	}
}

func TestP7_2ShowSix(t *testing.T) {
	for bits := range 128 {
		shows(t, six(bits), fmt.Sprintf("::/%d", bits))
	}
	shows(t, six(128), "::")
	shows(t, six(32), "::/32")
	shows(t, six(10, 0xfe, 0x80), "fe80::/10")
	shows(t, six(112, 0, 1, 0, 2, 0, 3, 0, 4, 0, 5, 0, 6, 0, 7), "1:2:3:4:5:6:7:0/112")
	shows(t, groups(0xabcd, 0xef01, 0x2345, 0x6789, 0xabc, 0xab, 0xa, 0xf000), "abcd:ef01:2345:6789:abc:ab:a:f000")
	shows(t, groups(0, 0, 0, 0, 0, 0xffff, 0x102, 0x304), "::ffff:102:304") // no IPv4 address within
	shows(t, groups(0, 0, 0, 0, 0, 0, 0x102, 0x304), "::102:304")
}

// TestP7_2ShowEachRow: each place and length of a row of 0.
func TestP7_2ShowEachRow(t *testing.T) {
	l := strings.Split("1:2:3:4:5:6:7:8", ":")
	for from := range 8 {
		for to := from + 1; to <= 8; to++ {
			n := groups(1, 2, 3, 4, 5, 6, 7, 8)
			clear(n.Addr[2*from : 2*to])
			want := strings.Join(l[:from], ":") + "::" + strings.Join(l[to:], ":")
			if to == from+1 {
				want = strings.Join(slices.Concat(l[:from], []string{"0"}, l[to:]), ":")
			}
			shows(t, n, want)
		}
	}
}

// TestP7_2ShowEachPattern: any groups may be 0, so that there are all pairs of rows, the same in length or not.
func TestP7_2ShowEachPattern(t *testing.T) {
	for pattern := range 256 {
		n := six(128)
		for i := range 16 {
			if pattern>>(i/2)&1 != 0 {
				n.Addr[i] = byte(i)
			}
		}
		sameForm(t, n)
	}
}

func TestP7_2ShowRows(t *testing.T) {
	shows(t, groups(1, 0, 0, 2, 0, 0, 0, 3), "1:0:0:2::3")
	shows(t, groups(1, 0, 0, 0, 2, 0, 0, 3), "1::2:0:0:3")
	shows(t, groups(1, 0, 0, 2, 3, 0, 0, 4), "1::2:3:0:0:4")
	shows(t, groups(0, 0, 1, 0, 0, 2, 0, 0), "::1:0:0:2:0:0")
	shows(t, groups(1, 0, 0, 0, 2, 0, 0, 0), "1::2:0:0:0")
	shows(t, groups(0, 0, 1, 2, 3, 0, 0, 0), "0:0:1:2:3::")
	shows(t, groups(0, 0, 0, 1, 2, 3, 0, 0), "::1:2:3:0:0")
	shows(t, groups(0, 1, 0, 1, 0, 1, 0, 1), "0:1:0:1:0:1:0:1")
	shows(t, groups(1, 0, 1, 0, 1, 0, 1, 0), "1:0:1:0:1:0:1:0")
	shows(t, groups(0, 1, 0, 0, 2, 0, 3, 0), "0:1::2:0:3:0")
	shows(t, groups(0, 0, 0, 1, 0, 0, 0, 0), "0:0:0:1::")
	shows(t, groups(0, 0, 0, 0, 1, 0, 0, 0), "::1:0:0:0")
	shows(t, groups(1, 0, 2, 3, 4, 5, 6, 7), "1:0:2:3:4:5:6:7")
	shows(t, groups(0, 1, 2, 3, 4, 5, 6, 7), "0:1:2:3:4:5:6:7")
	shows(t, groups(1, 2, 3, 4, 5, 6, 7, 0), "1:2:3:4:5:6:7:0")
	shows(t, groups(0x100, 0, 0x1000, 0x10, 0, 0, 0x8000, 0), "100:0:1000:10::8000:0") // bytes that are 0, within groups that are not
}

func TestP7_2ShowWhatMayNotBe(t *testing.T) {
	notRight(t, four(33), four(-1), four(128), six(129), six(-1), four(8, 10, 1), four(8, 10, 0, 0, 1), four(0, 0, 0, 0, 0, 1), api.Net{Six: true, Bits: 127, Addr: [16]byte{15: 1}}, six(0, 0x80), six(10, 0xfe, 0xb0), api.Net{Bits: 32, Addr: [16]byte{15: 1}})
}

func TestP7_2ListOfNone(t *testing.T) {
	for _, s := range []string{"", " ", "\t", "\n", "\r", ",", "  ", ",,", " \t\n\r,", ",\r\n\t ,", strings.Repeat(" ", 1<<16), strings.Repeat(",\n", 1<<16)} {
		lists(t, s)
	}
}

func TestP7_2List(t *testing.T) {
	a, b, c := four(8, 10), groups(0, 0, 0, 0, 0, 0, 0, 1), four(32, 1, 2, 3, 4)
	lists(t, "10.0.0.0/8", a)
	lists(t, "::1,10.0.0.0/8", b, a)
	lists(t, "10.0.0.0/8 10.0.0.0/8 1.2.3.4 10.0.0.0/8", a, a, c, a) // in their order, also twice
	for _, x := range []string{" ", "\t", "\n", "\r", ",", ", ", " ,", ",,", "\r\n", "\n\t", " \t\n\r,", ",\r\n\t ,,"} {
		lists(t, "10.0.0.0/8"+x+"::1"+x+"1.2.3.4/32", a, b, c)
		lists(t, x+"10.0.0.0/8"+x+"::1"+x+"1.2.3.4"+x, a, b, c)
		lists(t, x+"::1"+x, b)
	}
	lists(t, " 10.0.0.0/8, ::1\r\n\t1.2.3.4,,", a, b, c)
}

// TestP7_2ListOtherBytes: no other byte separates.
func TestP7_2ListOtherBytes(t *testing.T) {
	for c := range 256 {
		between := string([]byte{byte(c)})
		if strings.Contains(" \t\n\r,", between) {
			lists(t, "1.2.3.4"+between+"10.0.0.0/8", four(32, 1, 2, 3, 4), four(8, 10))
			continue
		}
		noList(t, "1.2.3.4"+between+"10.0.0.0/8", api.ErrCidrForm)
		noList(t, " "+between, api.ErrCidrForm)
	}
	for _, between := range []string{"\u00a0", "\u0085", "\u2028", "\u3000", "\uff0c", "\v", "\f", "\u0120", "\u012c", "\u0a00"} {
		noList(t, "1.2.3.4"+between+"10.0.0.0/8", api.ErrCidrForm)
	}
}

func TestP7_2ListWrong(t *testing.T) {
	for _, s := range []string{"x", "1.2.3.4 x", "x 1.2.3.4", "1.2.3.4,x,::1", "x y z", "::1 10.0.0.1/8 x ::2", "1.2.3", "1.2.3.4 /8", "1.2.3.4/ 8", "10.0.0.0 / 8", "1.2.3.4;::1", "1.2.3.4/33 ::/129", ":", "/", ".", "1.2. 3.4", "\"1.2.3.4\"", "\x00"} {
		noList(t, s, api.ErrCidrForm)
	}
}

// counted are so many ranges as text, all other than one another.
func counted(n int) []string {
	var l []string
	for i := range n {
		l = append(l, fmt.Sprintf("10.0.%d.0/24", i))
	}
	return l
}

func TestP7_2ListMany(t *testing.T) {
	for _, between := range []string{" ", ",", ", ", "\r\n"} {
		var want []api.Net
		for i := range 200 {
			want = append(want, four(24, 10, 0, byte(i)))
		}
		lists(t, strings.Join(counted(200), between), want...)
		lists(t, between+strings.Join(counted(200), between)+between, want...)
		lists(t, strings.Join(counted(199), between), want[:199]...)
		noList(t, strings.Join(counted(201), between), api.ErrCidrMany)
		noList(t, strings.Join(counted(255), between), api.ErrCidrMany)
	}
	noList(t, strings.Repeat("1.2.3.4 ", 1<<17), api.ErrCidrMany)
}

// TestP7_2ListManyWrong: of too many that is told, wherever wrong ones stand; else the wrong one.
func TestP7_2ListManyWrong(t *testing.T) {
	for _, at := range []int{0, 1, 100, 198, 199, 200} {
		l := counted(201)
		l[at] = "x"
		noList(t, strings.Join(l, " "), api.ErrCidrMany)
		l = slices.Delete(l, (at+1)%201, (at+1)%201+1)
		noList(t, strings.Join(l, " "), api.ErrCidrForm)
	}
	noList(t, strings.Repeat("x ", 201), api.ErrCidrMany)
	noList(t, strings.Repeat("x ", 200), api.ErrCidrForm)
	noList(t, strings.Repeat("x,", 1<<20), api.ErrCidrMany)
	noList(t, strings.Repeat("x", 1<<20), api.ErrCidrForm)
	noList(t, strings.Join(counted(200), " ")+" x", api.ErrCidrMany)
	noList(t, "10.0.0.1/8 "+strings.Join(counted(200), " "), api.ErrCidrMany)
}

// TestP7_2ListIsTheCallers: what was told is not told again, or kept (R3).
func TestP7_2ListIsTheCallers(t *testing.T) {
	const s = "10.0.0.0/8 ::1"
	l, _ := cidr.List(s)
	other, _ := cidr.List(s)
	l[0], l[1] = four(33), four(0)
	if other[0] != four(8, 10) || other[1] != groups(0, 0, 0, 0, 0, 0, 0, 1) {
		t.Error("two lists share what is in them")
	}
	lists(t, s, four(8, 10), groups(0, 0, 0, 0, 0, 0, 0, 1))
}

func TestP7_3Within(t *testing.T) {
	for _, x := range []struct {
		n, in string
		want  bool
	}{
		{"10.1.2.3", "10.0.0.0/8", true}, {"10.0.0.0/8", "10.1.0.0/16", false}, {"10.1.0.0/16", "10.0.0.0/8", true}, {"11.1.0.0/16", "10.0.0.0/8", false},
		{"10.0.0.0/8", "10.0.0.0/8", true}, {"10.0.0.0/8", "11.0.0.0/8", false}, {"10.0.0.0/8", "10.0.0.0/9", false}, {"10.0.0.0/9", "10.0.0.0/8", true}, {"10.128.0.0/9", "10.0.0.0/8", true},
		{"1.2.3.4", "1.2.3.4", true}, {"1.2.3.4", "1.2.3.5", false}, {"1.2.3.4", "1.2.3.4/31", true}, {"1.2.3.5", "1.2.3.4/31", true}, {"1.2.3.6", "1.2.3.4/31", false}, {"1.2.3.3", "1.2.3.4/31", false}, {"1.2.3.4/31", "1.2.3.4", false},
		{"1.2.3.4", "0.0.0.0/0", true}, {"0.0.0.0/0", "0.0.0.0/0", true}, {"255.0.0.0/8", "0.0.0.0/0", true}, {"0.0.0.0/0", "0.0.0.0/1", false}, {"0.0.0.0", "0.0.0.0/0", true}, {"0.0.0.0/0", "0.0.0.0", false},
		{"127.255.255.255", "0.0.0.0/1", true}, {"128.0.0.0", "0.0.0.0/1", false}, {"128.0.0.0", "128.0.0.0/1", true},
		{"172.16.0.1", "172.16.0.0/12", true}, {"172.31.255.255", "172.16.0.0/12", true}, {"172.32.0.0", "172.16.0.0/12", false}, {"172.15.255.255", "172.16.0.0/12", false},
		{"10.1.127.255", "10.1.0.0/17", true}, {"10.1.128.0", "10.1.0.0/17", false}, {"10.1.255.255", "10.1.0.0/17", false},
		{"::1", "::/0", true}, {"ffff::", "::/0", true}, {"::/0", "::/0", true}, {"::/0", "::/1", false}, {"::1", "::1", true}, {"::2", "::1", false}, {"::3", "::2/127", true}, {"::4", "::2/127", false},
		{"fe80::1", "fe80::/10", true}, {"febf:ffff::", "fe80::/10", true}, {"fec0::", "fe80::/10", false}, {"2001:db8:1::/48", "2001:db8::/32", true}, {"2001:db8::/32", "2001:db8:1::/48", false}, {"2001:db9::", "2001:db8::/32", false},
		{"0:0:0:0:8000::", "::/64", true}, {"0:0:0:1::", "::/64", false}, {"0:0:0:1::", "::/63", true},
		{"0.0.0.0", "::/0", false}, {"::", "0.0.0.0/0", false}, {"0.0.0.0/0", "::/0", false}, {"::/0", "0.0.0.0/0", false}, {"::/32", "0.0.0.0", false}, {"0.0.0.0", "::/32", false}, {"a00::", "10.0.0.0/8", false}, {"10.0.0.0", "a00::/8", false}, {"::ffff:102:304", "1.2.3.4", false},
	} {
		within(t, x.n, x.in, x.want)
	}
}

// TestP7_3WithinEachBit: an address whose bit at that place is another one lies in ranges of fewer bits alone.
func TestP7_3WithinEachBit(t *testing.T) {
	all := strings.Repeat("\xa5", 16)
	for at := range 128 {
		n := six(128, []byte(all)...)
		n.Addr[at/8] ^= 1 << (7 - at%8)
		for bits := range 129 {
			in := six(bits)
			for i := range bits {
				in.Addr[i/8] |= all[i/8] & (1 << (7 - i%8))
			}
			if cidr.Within(n, in) != (bits <= at) {
				t.Errorf("bit %d is another one: Within of %d bits: %v", at, bits, cidr.Within(n, in))
			}
		}
	}
}

func TestP7_3WithinWhatMayNotBe(t *testing.T) {
	right := []api.Net{four(0), four(8, 10), four(32, 10, 0, 0, 1), six(0), six(10, 0xfe, 0x80), groups(0, 0, 0, 0, 0, 0, 0, 1)}
	wrong := []api.Net{four(33), four(-1), four(8, 10, 1), four(0, 0, 0, 0, 0, 1), four(128), six(129), six(-1), api.Net{Six: true, Bits: 127, Addr: [16]byte{15: 1}}, six(10, 0xff, 0xff), four(33, 10, 0, 0, 1), six(256), four(0, 1)}
	for _, n := range wrong {
		for _, x := range append(right, wrong...) {
			if cidr.Within(n, x) || cidr.Within(x, n) {
				t.Errorf("Within: of %v, which may not be, and %v", n, x)
			}
		}
	}
}

func TestP7_3Has(t *testing.T) {
	l := []api.Net{four(8, 10), six(10, 0xfe, 0x80), four(33), four(31, 1, 2, 3, 4), four(8, 10, 1)}
	for s, want := range map[string]bool{
		"10.0.0.0": true, "10.255.255.255": true, "11.0.0.0": false, "9.255.255.255": false, "1.2.3.4": true, "1.2.3.5": true, "1.2.3.6": false,
		"fe80::1": true, "fec0::": false, "::": false, "0.0.0.0": false,
		"10.0.0.0/8": true, "10.0.0.0/7": false, "10.1.0.0/16": true, "1.2.3.4/31": true, "1.2.3.4/30": false, "0.0.0.0/0": false, "::/0": false, "fe80::/9": false, // ranges lie within too
	} {
		if cidr.Has(l, parsed(t, s)) != want {
			t.Errorf("Has(%s): not %v", s, want)
		}
	}
	for _, n := range []api.Net{four(33), four(8, 10, 1), four(-1), six(129), four(32, 10, 0, 0, 0, 1)} {
		if cidr.Has(l, n) {
			t.Errorf("Has(%v), which may not be", n)
		}
	}
}

func TestP7_3HasOfNone(t *testing.T) {
	for _, n := range []api.Net{{}, four(32, 1, 2, 3, 4), six(0), six(128)} {
		if cidr.Has(nil, n) || cidr.Has([]api.Net{}, n) || cidr.Has([]api.Net{four(33), four(-1), six(129), four(0, 1)}, n) {
			t.Errorf("Has of none: %v", n)
		}
	}
}

func TestP7_3HasEachPlace(t *testing.T) {
	l := make([]api.Net, 200)
	for i := range l {
		l[i] = four(24, 10, 0, byte(i))
	}
	before := slices.Clone(l)
	for i := range l {
		if !cidr.Has(l, four(32, 10, 0, byte(i), 7)) || cidr.Has(l[:i], four(32, 10, 0, byte(i), 7)) || cidr.Has(l[i+1:], four(32, 10, 0, byte(i), 7)) {
			t.Errorf("Has of the range at %d", i)
		}
	}
	if !slices.Equal(l, before) {
		t.Error("Has turned what was handed in")
	}
}

// TestP7_4Texts: what Parse takes is shown in its form, which is read as the same.
func TestP7_4Texts(t *testing.T) {
	for s, want := range map[string]string{
		"10.0.0.0/8": "10.0.0.0/8", "1.2.3.4/32": "1.2.3.4", "1.2.3.4": "1.2.3.4", "0.0.0.0/0": "0.0.0.0/0",
		"2001:DB8::0:1": "2001:db8::1", "1::3:4:5:6:7:8": "1:0:3:4:5:6:7:8", "::2:3:4:5:6:7:8": "0:2:3:4:5:6:7:8", "1:2:3:4:5:6:7::": "1:2:3:4:5:6:7:0", "0:0:0:0:0:0:0:0/0": "::/0", "::/128": "::", "0::0/127": "::/127", "ABCD:00EF:0001::/128": "abcd:ef:1::", "1:0:0:2::3": "1:0:0:2::3", "1::2:0:0:0:3": "1:0:0:2::3", "1:0:0:2:3::4": "1::2:3:0:0:4",
	} {
		n := parsed(t, s)
		shows(t, n, want)
		isRange(t, want, n)
	}
}

func TestP7_5Order(t *testing.T) {
	var l []api.Net
	for _, s := range []string{"0.0.0.0/0", "0.0.0.0/1", "128.0.0.0/1", "10.0.0.0/8", "10.1.0.0/16", "10.1.2.0/23", "10.1.2.0/24", "10.1.2.3", "0.0.0.0", "::/0", "::/1", "::/32", "::", "::1", "::/127", "fe80::/10", "fe80::/64", "fe80::1"} {
		l = append(l, parsed(t, s))
	}
	for _, a := range l {
		if !cidr.Within(a, a) {
			t.Errorf("Within(%v, itself): false", a)
		}
		for _, b := range l {
			if a != b && cidr.Within(a, b) && cidr.Within(b, a) {
				t.Errorf("%v and %v lie within one another", a, b)
			}
			for _, c := range l {
				if cidr.Within(a, b) && cidr.Within(b, c) && !cidr.Within(a, c) {
					t.Errorf("%v lies within %v, that within %v", a, b, c)
				}
			}
		}
	}
}

// TestExamples is the chapter's table.
func TestExamples(t *testing.T) {
	n := parsed(t, "10.0.0.0/8")
	if n.Bits != 8 {
		t.Error(n)
	}
	shows(t, n, "10.0.0.0/8")
	n, e := cidr.Addr("2001:DB8::0:1")
	if e != api.OK {
		t.Error(e)
	}
	shows(t, n, "2001:db8::1")
	shows(t, parsed(t, "1:0:0:2:0:0:0:3"), "1:0:0:2::3")
	shows(t, parsed(t, "0:0:0:0:0:0:0:0/0"), "::/0")
	shows(t, parsed(t, "1:0:2:3:4:5:6:7"), "1:0:2:3:4:5:6:7")
	noRange(t, "10.0.0.1/8", "10.0.0", "010.0.0.1", "1::2::3", "::1/129", "1:2:3:4:5:6:7:8::")
	within(t, "10.1.2.3", "10.0.0.0/8", true)
	within(t, "10.0.0.0/8", "10.1.0.0/16", false)
}
