package cidr_test

import (
	"regexp"
	"strconv"
	"strings"
	"testing"

	"waybill/api"
	"waybill/cidr"
)

// The chapter's words once more, written apart from the program: bits are gone through one by one, and the `::` is tried in the place of each number of groups.
var (
	fourText   = regexp.MustCompile(`^(0|[1-9][0-9]{0,2})(\.(0|[1-9][0-9]{0,2})){3}$`)
	sixText    = regexp.MustCompile(`^[0-9a-fA-F]{1,4}(:[0-9a-fA-F]{1,4}){7}$`)
	numberText = regexp.MustCompile(`^(0|[1-9][0-9]{0,2})$`)
)

func modelAddr(s string) (api.Net, bool) {
	if fourText.MatchString(s) {
		n := api.Net{Bits: 32}
		for i, text := range strings.Split(s, ".") {
			x, e := strconv.Atoi(text)
			if e != nil || x > 255 {
				return api.Net{}, false
			}
			n.Addr[i] = byte(x)
		}
		return n, true
	}
	if sixText.MatchString(s) {
		return modelGroups(s), true
	}
	for at := range s {
		if !strings.HasPrefix(s[at:], "::") {
			continue
		}
		for count := 1; count <= 8; count++ {
			if whole := inPlace(s[:at], count, s[at+2:]); strings.Count(whole, ":") == 7 && sixText.MatchString(whole) {
				return modelGroups(whole), true
			}
		}
	}
	return api.Net{}, false
}

// inPlace is a text in which so many groups that are 0 stand in the place of a `::`.
func inPlace(ahead string, count int, behind string) string {
	s := strings.Repeat(":0", count)[1:]
	if ahead != "" {
		s = ahead + ":" + s
	}
	if behind != "" {
		s += ":" + behind
	}
	return s
}

func modelGroups(s string) api.Net {
	var g []uint16
	for _, text := range strings.Split(s, ":") {
		x, _ := strconv.ParseUint(text, 16, 64)
		g = append(g, uint16(x))
	}
	return groups(g...)
}

func modelParse(s string) (api.Net, bool) {
	l := strings.Split(s, "/")
	n, is := modelAddr(l[0])
	if len(l) > 1 {
		if !numberText.MatchString(l[1]) {
			return api.Net{}, false
		}
		n.Bits, _ = strconv.Atoi(l[1])
	}
	if !is || len(l) > 2 || !modelRight(n) {
		return api.Net{}, false
	}
	return n, true
}

func bit(n api.Net, i int) byte { return n.Addr[i/8] >> (7 - i%8) & 1 }

func modelRight(n api.Net) bool {
	if n.Bits < 0 || n.Bits > 128 || n.Bits > 32 && !n.Six {
		return false
	}
	for i := n.Bits; i < 128; i++ {
		if bit(n, i) != 0 {
			return false
		}
	}
	return true
}

func modelWithin(n, in api.Net) bool {
	if !modelRight(n) || !modelRight(in) || n.Six != in.Six || n.Bits < in.Bits {
		return false
	}
	for i := range in.Bits {
		if bit(n, i) != bit(in, i) {
			return false
		}
	}
	return true
}

// modelShow tries each row of groups, the longest ones and of these the first ones ahead.
func modelShow(n api.Net) string {
	var l []string
	if !n.Six {
		for _, x := range n.Addr[:4] {
			l = append(l, strconv.Itoa(int(x)))
		}
		return strings.Join(l, ".") + modelBits(n, 32)
	}
	for i := 0; i < 16; i += 2 {
		l = append(l, strconv.FormatInt(int64(n.Addr[i])*256+int64(n.Addr[i+1]), 16))
	}
	for size := 8; size > 1; size-- {
		for at := 0; at+size <= 8; at++ {
			if strings.Join(l[at:at+size], "") == strings.Repeat("0", size) {
				return strings.Join(l[:at], ":") + "::" + strings.Join(l[at+size:], ":") + modelBits(n, 128)
			}
		}
	}
	return strings.Join(l, ":") + modelBits(n, 128)
}

func modelBits(n api.Net, most int) string {
	if n.Bits == most {
		return ""
	}
	return "/" + strconv.Itoa(n.Bits)
}

// sameText holds what is read of a text, and shown of that, against the model; it tells whether the text is a range.
func sameText(t *testing.T, s string) bool {
	t.Helper()
	want, isAny := modelAddr(s)
	if n, e := cidr.Addr(s); n != want || e != codeOf(isAny) {
		t.Fatalf("Addr(%s): %v %v, not %v", short(s), n, e, want)
	}
	want, is := modelParse(s)
	if n, e := cidr.Parse(s); n != want || e != codeOf(is) {
		t.Fatalf("Parse(%s): %v %v, not %v", short(s), n, e, want)
	}
	if isAny && !is {
		t.Fatalf("%s is an address, but no range", short(s))
	}
	if is {
		sameForm(t, want)
	}
	return is
}

func codeOf(is bool) api.Errno {
	if is {
		return api.OK
	}
	return api.ErrCidrForm
}

// sameForm holds a range's form against the model, and wants P7.4 of it.
func sameForm(t *testing.T, n api.Net) {
	t.Helper()
	s, e := cidr.Show(n)
	if s != modelShow(n) || e != api.OK {
		t.Fatalf("Show(%v): %s %v, not %s", n, s, e, modelShow(n))
	}
	back, e := cidr.Parse(s)
	if back != n || e != api.OK {
		t.Fatalf("Parse(Show(%v)): %s, %v %v", n, s, back, e)
	}
	if again, e := cidr.Show(back); again != s || e != api.OK {
		t.Fatalf("Show(Parse(%s)): %s %v", s, again, e)
	}
}

// eachText calls do with each text of these bytes that is at most so long.
func eachText(letters string, most int, do func(s string)) {
	var next func(s string)
	next = func(s string) {
		do(s)
		for _, c := range letters {
			if len(s) < most {
				next(s + string(c))
			}
		}
	}
	next("")
}

// TestP7_1EachText goes through all short texts of a few bytes; those of `1` and `:` have up to nine groups, and a `::` at each place.
func TestP7_1EachText(t *testing.T) {
	for _, x := range []struct {
		letters string
		most    int
		right   int
	}{
		{"1:", 17, 100}, {"1.", 9, 1}, {"0a:/", 7, 20}, {"02.", 9, 10}, {":/01", 7, 20}, {"1.:", 8, 10},
	} {
		right := 0
		eachText(x.letters, x.most, func(s string) {
			if sameText(t, s) {
				right++
			}
		})
		if right < x.right {
			t.Errorf("texts of %s: only %d are ranges", x.letters, right)
		}
	}
}

// TestP7_1EachByte puts each byte in the place of each one of a range's text, and ahead of it.
func TestP7_1EachByte(t *testing.T) {
	for _, s := range []string{"10.20.30.0/24", "1.2.3.4", "1:2:3:4:5:6:7:8", "ab::c0:0/112", "::", "::/0", "fe80::/10"} {
		for at := 0; at <= len(s); at++ {
			for c := range 256 {
				byteText := string([]byte{byte(c)})
				sameText(t, s[:at]+byteText+s[at:])
				if at < len(s) {
					sameText(t, s[:at]+byteText+s[at+1:])
				}
			}
		}
	}
}

// TestP7_1Chance reads texts made of pieces by chance.
func TestP7_1Chance(t *testing.T) {
	numbers := []string{"0", "1", "9", "10", "99", "100", "255", "256", "999", "01", "00", "1000", "", "x"}
	hexes := []string{"0", "0", "0", "1", "f", "ab", "CD", "0e0", "ffff", "0000", "1F2e", "10000", "g", ""}
	ends := []string{"", "", "/0", "/1", "/8", "/9", "/16", "/31", "/32", "/33", "/64", "/127", "/128", "/129", "/999", "/", "/00", "/08", "/1000", "//8", "/8/", "/x", "/-1", "/+8"}
	d := dice(1)
	right := 0
	for range 100000 {
		parts, l, between := numbers[:7+max(0, d.roll(15)-7)], []string{}, "."
		if d.roll(2) == 0 {
			parts, between = hexes[:11+max(0, d.roll(8)-4)], ":"
		}
		for range 2 + d.roll(8) {
			l = append(l, d.one(parts))
		}
		if between == "." && d.roll(4) > 0 {
			l = append(l, "0", "0", "0")[:4]
		}
		s := strings.Join(l, between)
		if between == ":" && d.roll(2) == 0 {
			at := d.roll(len(s) + 1)
			s = s[:at] + "::" + strings.TrimLeft(s[at:], ":")
		}
		if sameText(t, s+d.one(ends)) {
			right++
		}
	}
	if right < 5000 {
		t.Error("so few texts are ranges:", right)
	}
}

// anyNet is a range by chance: about half of them may be.
func anyNet(d *dice) api.Net {
	n := api.Net{Six: d.roll(2) == 0}
	most := 32
	if n.Six {
		most = 128
	}
	n.Bits = d.roll(most + 1)
	kept := n.Bits
	switch d.roll(6) {
	case 0:
		kept = 128
	case 1:
		n.Bits = d.roll(400) - 130
	case 2:
		kept++
	}
	for i := range n.Addr {
		n.Addr[i] = []byte{0, 0, 0, 255, 1, 128, byte(d.roll(256))}[d.roll(7)]
	}
	for i := max(kept, 0); i < 128; i++ {
		n.Addr[i/8] &^= 1 << (7 - i%8)
	}
	return n
}

// TestP7_4Chance shows ranges by chance, and reads what is shown.
func TestP7_4Chance(t *testing.T) {
	d := dice(2)
	right := 0
	for range 100000 {
		n := anyNet(&d)
		is := modelRight(n)
		if cidr.Right(n) != is {
			t.Fatalf("Right(%v): not %v", n, is)
		}
		if is {
			right++
			sameForm(t, n)
		} else if s, e := cidr.Show(n); s != "" || e != api.ErrCidrForm {
			t.Fatalf("Show(%v): %s %v", n, s, e)
		}
	}
	if right < 30000 || right > 90000 {
		t.Error("so many may be:", right)
	}
}

// nearNet is a range of a few, so that many of them lie within one another.
func nearNet(d *dice) api.Net {
	n := api.Net{Six: d.roll(3) == 0, Bits: []int{0, 1, 3, 7, 8, 9, 12, 16, 17, 31, 32}[d.roll(11)]}
	if n.Six && d.roll(2) == 0 {
		n.Bits *= 4
	}
	for i := range n.Addr {
		n.Addr[i] = []byte{0, 0, 0, 0, 128, 1}[d.roll(6)]
	}
	if d.roll(8) > 0 {
		for i := n.Bits; i < 128; i++ {
			n.Addr[i/8] &^= 1 << (7 - i%8)
		}
	}
	return n
}

// TestP7_5Chance wants Within of ranges by chance to be what the model says, and an order.
func TestP7_5Chance(t *testing.T) {
	d := dice(3)
	chains := 0
	for range 200000 {
		a, b, c := nearNet(&d), nearNet(&d), nearNet(&d)
		for _, n := range []api.Net{a, b, c} {
			if cidr.Within(n, n) != modelRight(n) {
				t.Fatalf("Within(%v, itself)", n)
			}
		}
		ab, bc := cidr.Within(a, b), cidr.Within(b, c)
		if ab != modelWithin(a, b) || bc != modelWithin(b, c) {
			t.Fatalf("Within(%v, %v): %v; (%v, %v): %v", a, b, ab, b, c, bc)
		}
		if ab && cidr.Within(b, a) && a != b {
			t.Fatalf("%v and %v lie within one another", a, b)
		}
		if ab && bc {
			chains++
			if !cidr.Within(a, c) {
				t.Fatalf("%v lies within %v, that within %v", a, b, c)
			}
		}
	}
	if chains < 1000 {
		t.Error("so few lie within one within a third:", chains)
	}
}

// TestP7_3Chance asks lists of ranges by chance.
func TestP7_3Chance(t *testing.T) {
	d := dice(4)
	counts := map[bool]int{}
	for range 20000 {
		var l []api.Net
		for range d.roll(5) {
			l = append(l, nearNet(&d))
		}
		addr, want := nearNet(&d), false
		for _, in := range l {
			want = want || modelWithin(addr, in)
		}
		counts[want]++
		if cidr.Has(l, addr) != want {
			t.Fatalf("Has(%v, %v): not %v", l, addr, want)
		}
	}
	if counts[true] < 1000 || counts[false] < 1000 {
		t.Error(counts)
	}
}

func FuzzParse(f *testing.F) {
	for _, s := range []string{"", "10.0.0.0/8", "2001:DB8::0:1", "1:0:0:2:0:0:0:3", "::/0", "010.0.0.1", "1::2::3", "::1/129", "1:2:3:4:5:6:7:8::", "::1.2.3.4"} {
		f.Add(s)
	}
	f.Fuzz(func(t *testing.T, s string) { sameText(t, s) })
}
