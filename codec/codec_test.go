package codec_test

import (
	"math"
	"math/rand/v2"
	"regexp"
	"strconv"
	"strings"
	"testing"

	"waybill/api"
	"waybill/codec"
)

const maxNumber = 1 << 53

// number and text lay down what may be laid down.
func number(t *testing.T, n int) string {
	t.Helper()
	b, e := codec.Number(n)
	if e != api.OK {
		t.Fatalf("Number(%d): %v", n, e)
	}
	return string(b)
}

func text(t *testing.T, s string) string {
	t.Helper()
	b, e := codec.Text(s)
	if e != api.OK {
		t.Fatalf("Text of %d bytes: %v", len(s), e)
	}
	return string(b)
}

func takesNumber(t *testing.T, s string, n, size int, e api.Errno) {
	t.Helper()
	if gotN, gotSize, gotE := codec.TakeNumber([]byte(s)); gotN != n || gotSize != size || gotE != e {
		t.Errorf("TakeNumber(%q): %d %d %v, not %d %d %v", s, gotN, gotSize, gotE, n, size, e)
	}
}

func takesText(t *testing.T, b, s string, size int, e api.Errno) {
	t.Helper()
	if gotS, gotSize, gotE := codec.TakeText([]byte(b)); gotS != s || gotSize != size || gotE != e {
		t.Errorf("TakeText(%s): %s %d %v, not %s %d %v", short(b), short(gotS), gotSize, gotE, short(s), size, e)
	}
}

// short keeps what is told of a great text readable.
func short(s string) string {
	if len(s) > 40 {
		return strconv.Quote(s[:40]) + ".. of " + strconv.Itoa(len(s)) + " bytes"
	}
	return strconv.Quote(s)
}

func TestP2_1Number(t *testing.T) {
	for _, x := range []struct {
		n    int
		want string
		e    api.Errno
	}{
		{0, "0;", api.OK},
		{1, "1;", api.OK},
		{9, "9;", api.OK},
		{10, "10;", api.OK},
		{25, "25;", api.OK},
		{100, "100;", api.OK},
		{math.MaxUint32, "4294967295;", api.OK},
		{maxNumber - 1, "9007199254740991;", api.OK},
		{maxNumber, "9007199254740992;", api.OK},
		{maxNumber + 1, "", api.ErrCodecLong},
		{math.MaxInt, "", api.ErrCodecLong},
		{-1, "", api.ErrCodecLong},
		{-25, "", api.ErrCodecLong},
		{math.MinInt, "", api.ErrCodecLong},
	} {
		if b, e := codec.Number(x.n); string(b) != x.want || e != x.e {
			t.Errorf("Number(%d): %q %v, not %q %v", x.n, b, e, x.want, x.e)
		}
	}
}

func TestP2_1TakeNumber(t *testing.T) {
	for _, x := range []struct {
		b       string
		n, size int
		e       api.Errno
	}{
		{"0;", 0, 2, api.OK},
		{"7;", 7, 2, api.OK},
		{"10;", 10, 3, api.OK},
		{"25;x", 25, 3, api.OK},
		{"25;;", 25, 3, api.OK},
		{"25;26;", 25, 3, api.OK},
		{"1234567890123456;", 1234567890123456, 17, api.OK},
		{"9007199254740992;", maxNumber, 17, api.OK},
		{"9007199254740992;7", maxNumber, 17, api.OK},

		{"", 0, 0, api.ErrCodecShort},
		{"0", 0, 0, api.ErrCodecShort},
		{"25", 0, 0, api.ErrCodecShort},
		{"1234567890123456", 0, 0, api.ErrCodecShort},
		{"9999999999999999", 0, 0, api.ErrCodecShort},

		{"9007199254740993;", 0, 0, api.ErrCodecLong},
		{"9999999999999999;", 0, 0, api.ErrCodecLong},

		{";", 0, 0, api.ErrCodecForm},
		{";1;", 0, 0, api.ErrCodecForm},
		{"00", 0, 0, api.ErrCodecForm},
		{"00;", 0, 0, api.ErrCodecForm},
		{"01", 0, 0, api.ErrCodecForm},
		{"025;", 0, 0, api.ErrCodecForm},
		{"12345678901234567", 0, 0, api.ErrCodecForm},
		{"12345678901234567;", 0, 0, api.ErrCodecForm},
		{"00000000000000001;", 0, 0, api.ErrCodecForm},
		{"99999999999999999999999999;", 0, 0, api.ErrCodecForm},
		{"9999999999999999x", 0, 0, api.ErrCodecForm},
		{"-1;", 0, 0, api.ErrCodecForm},
		{"+1;", 0, 0, api.ErrCodecForm},
		{" 1;", 0, 0, api.ErrCodecForm},
		{"1 ;", 0, 0, api.ErrCodecForm},
		{"1x;", 0, 0, api.ErrCodecForm},
		{"1:", 0, 0, api.ErrCodecForm},
		{"1,", 0, 0, api.ErrCodecForm},
		{"1.5;", 0, 0, api.ErrCodecForm},
		{"1e3;", 0, 0, api.ErrCodecForm},
		{"0x1;", 0, 0, api.ErrCodecForm},
		{"1_0;", 0, 0, api.ErrCodecForm},
	} {
		takesNumber(t, x.b, x.n, x.size, x.e)
	}
}

func TestP2_1TakeNumberOfEachByte(t *testing.T) {
	for c := range 256 {
		s := string([]byte{byte(c)})
		e := api.ErrCodecForm
		if strings.Contains("0123456789", s) {
			e = api.ErrCodecShort
		}
		takesNumber(t, s, 0, 0, e)
		if s == ";" {
			takesNumber(t, "1"+s, 1, 2, api.OK)
		} else {
			takesNumber(t, "1"+s, 0, 0, e)
		}
	}
}

// all hands out each text of at most that many of these bytes.
func all(bytes string, most int, yield func(string)) {
	level := []string{""}
	for {
		var next []string
		for _, s := range level {
			yield(s)
			for i := range len(bytes) {
				next = append(next, s+bytes[i:i+1])
			}
		}
		if most == 0 {
			return
		}
		most--
		level = next
	}
}

func TestP2_1TakeNumberOfAllShortBytes(t *testing.T) {
	whole := regexp.MustCompile(`^(0|[1-9][0-9]*);`)
	begun := regexp.MustCompile(`^(0|[1-9][0-9]*)?$`)
	all("019;x", 6, func(s string) {
		if m := whole.FindStringSubmatch(s); m != nil {
			n, _ := strconv.Atoi(m[1])
			takesNumber(t, s, n, len(m[0]), api.OK)
		} else if begun.MatchString(s) {
			takesNumber(t, s, 0, 0, api.ErrCodecShort)
		} else {
			takesNumber(t, s, 0, 0, api.ErrCodecForm)
		}
	})
}

func TestP2_2Text(t *testing.T) {
	for _, x := range []struct{ s, want string }{
		{"", "0:,"},
		{"a", "1:a,"},
		{"a,b", "3:a,b,"},
		{",", "1:,,"},
		{"1:a,", "4:1:a,,"},
		{"\x00\r\n\xff", "4:\x00\r\n\xff,"},
		{"\xc3\xa4", "2:\xc3\xa4,"},
		{strings.Repeat("x", 10), "10:xxxxxxxxxx,"},
	} {
		if b, e := codec.Text(x.s); string(b) != x.want || e != api.OK {
			t.Errorf("Text(%q): %q %v, not %q", x.s, b, e, x.want)
		}
	}
}

func TestP2_2TextsAsLongAsMayBe(t *testing.T) {
	most := strings.Repeat("m", api.MaxText)
	if b, e := codec.Text(most); string(b) != "1048576:"+most+"," || e != api.OK {
		t.Errorf("of MaxText bytes: %s %v", short(string(b)), e)
	}
	for _, more := range []int{1, 2, api.MaxText} {
		if b, e := codec.Text(most + most[:more]); len(b) != 0 || e != api.ErrCodecLong {
			t.Errorf("of %d bytes more than MaxText: %s %v", more, short(string(b)), e)
		}
	}
	takesText(t, "1048576:"+most+",", most, 8+api.MaxText+1, api.OK)
	takesText(t, "1048576:"+most+",,", most, 8+api.MaxText+1, api.OK)
	takesText(t, "1048576:"+most, "", 0, api.ErrCodecShort)
	takesText(t, "1048576:"+most+"m", "", 0, api.ErrCodecForm)
	takesText(t, "1048577:"+most+"m,", "", 0, api.ErrCodecLong)
}

func TestP2_2TakeText(t *testing.T) {
	for _, x := range []struct {
		b, s string
		size int
		e    api.Errno
	}{
		{"0:,", "", 3, api.OK},
		{"0:,x", "", 3, api.OK},
		{"1:a,", "a", 4, api.OK},
		{"1:a,,", "a", 4, api.OK},
		{"3:a,b,", "a,b", 6, api.OK},
		{"3:a:;,1:b,", "a:;", 6, api.OK},
		{"10:0123456789,x", "0123456789", 14, api.OK},

		{"", "", 0, api.ErrCodecShort},
		{"0", "", 0, api.ErrCodecShort},
		{"1", "", 0, api.ErrCodecShort},
		{"1048576", "", 0, api.ErrCodecShort},
		{"1048577", "", 0, api.ErrCodecShort},
		{"9999999", "", 0, api.ErrCodecShort},
		{"0:", "", 0, api.ErrCodecShort},
		{"1:", "", 0, api.ErrCodecShort},
		{"1:a", "", 0, api.ErrCodecShort},
		{"2:a", "", 0, api.ErrCodecShort},
		{"2:a,", "", 0, api.ErrCodecShort},
		{"1048576:", "", 0, api.ErrCodecShort},

		{"1048577:", "", 0, api.ErrCodecLong},
		{"1048577:a,", "", 0, api.ErrCodecLong},
		{"9999999:", "", 0, api.ErrCodecLong},

		{":", "", 0, api.ErrCodecForm},
		{":a,", "", 0, api.ErrCodecForm},
		{"00", "", 0, api.ErrCodecForm},
		{"00:,", "", 0, api.ErrCodecForm},
		{"01:a,", "", 0, api.ErrCodecForm},
		{"12345678", "", 0, api.ErrCodecForm},
		{"12345678:", "", 0, api.ErrCodecForm},
		{"9999999x", "", 0, api.ErrCodecForm},
		{"1;a,", "", 0, api.ErrCodecForm},
		{"1,a,", "", 0, api.ErrCodecForm},
		{"-1:a,", "", 0, api.ErrCodecForm},
		{"+1:a,", "", 0, api.ErrCodecForm},
		{" 1:a,", "", 0, api.ErrCodecForm},
		{"0x1:a,", "", 0, api.ErrCodecForm},
		{"a", "", 0, api.ErrCodecForm},
		{"0:x", "", 0, api.ErrCodecForm},
		{"1:ab", "", 0, api.ErrCodecForm},
		{"1:ab,", "", 0, api.ErrCodecForm},
		{"1:a;", "", 0, api.ErrCodecForm},
	} {
		takesText(t, x.b, x.s, x.size, x.e)
	}
}

func TestP2_2TakeTextOfAllShortBytes(t *testing.T) {
	begun := regexp.MustCompile(`^(0|[1-9][0-9]*)?$`)
	length := regexp.MustCompile(`^(0|[1-9][0-9]*):`)
	all("012:,x", 6, func(b string) {
		m := length.FindStringSubmatch(b)
		if m == nil && begun.MatchString(b) {
			takesText(t, b, "", 0, api.ErrCodecShort)
			return
		}
		if m == nil {
			takesText(t, b, "", 0, api.ErrCodecForm)
			return
		}
		n, _ := strconv.Atoi(m[1])
		behind := b[len(m[0]):]
		switch {
		case len(behind) < n+1:
			takesText(t, b, "", 0, api.ErrCodecShort)
		case behind[n] != ',':
			takesText(t, b, "", 0, api.ErrCodecForm)
		default:
			takesText(t, b, behind[:n], len(m[0])+n+1, api.OK)
		}
	})
}

// numbers and texts are such as may be laid down: edges and some between.
func numbers() []int {
	l := []int{0, 1, 9, maxNumber - 1, maxNumber}
	for n := 10; n < maxNumber; n *= 10 {
		l = append(l, n-1, n, n+1)
	}
	r := rand.New(rand.NewPCG(2, 4))
	for range 500 {
		l = append(l, int(r.Uint64N(maxNumber+1)>>r.IntN(53)))
	}
	return l
}

func texts() []string {
	l := []string{"", "a", ",", ":", ";", "0:,", "1:a,", "3:a,b,", "\x00", "\r\n"}
	r := rand.New(rand.NewPCG(2, 5))
	for n := range 130 {
		b := make([]byte, n)
		for i := range b {
			b[i] = byte(r.Uint32())
		}
		l = append(l, string(b))
	}
	return l
}

// behinds is what may stand behind what is laid down.
func behinds() []string {
	return []string{"", "0", "9", ";", ":", ",", "-", "\x00", "\xff", "7;", "1:a,", strings.Repeat("5", 40)}
}

func TestP2_4NumbersAreReadAgain(t *testing.T) {
	for _, n := range numbers() {
		b := number(t, n)
		for _, behind := range behinds() {
			takesNumber(t, b+behind, n, len(b), api.OK)
		}
		for i := range len(b) {
			takesNumber(t, b[:i], 0, 0, api.ErrCodecShort)
		}
	}
}

func TestP2_4TextsAreReadAgain(t *testing.T) {
	for _, s := range texts() {
		b := text(t, s)
		for _, behind := range behinds() {
			takesText(t, b+behind, s, len(b), api.OK)
		}
		for i := range len(b) {
			takesText(t, b[:i], "", 0, api.ErrCodecShort)
		}
	}
}

func TestP2_4BeginningsOfAGreatText(t *testing.T) {
	b := text(t, strings.Repeat("1:a,", api.MaxText/4))
	for i := 0; i < len(b); i += 1 + i/50 {
		takesText(t, b[:i], "", 0, api.ErrCodecShort)
	}
	takesText(t, b[:len(b)-1], "", 0, api.ErrCodecShort)
}

func TestP2_4OneBehindTheOther(t *testing.T) {
	var b []byte
	for i, s := range texts() {
		b = append(b, number(t, i*i)+text(t, s)...)
	}
	for i, s := range texts() {
		n, size, e := codec.TakeNumber(b)
		if n != i*i || e != api.OK {
			t.Fatalf("number %d: %d %v", i, n, e)
		}
		b = b[size:]
		got, size, e := codec.TakeText(b)
		if got != s || e != api.OK {
			t.Fatalf("text %d: %q %v", i, got, e)
		}
		b = b[size:]
	}
	if len(b) != 0 {
		t.Errorf("%d bytes are left", len(b))
	}
}

func TestWhatIsHandedInStaysAndIsNotShared(t *testing.T) {
	b := []byte("3:abc,")
	s, _, _ := codec.TakeText(b)
	if string(b) != "3:abc," {
		t.Errorf("changed: %q", b)
	}
	copy(b, "xxxxxx")
	if s != "abc" {
		t.Errorf("shared: %q", s)
	}
	one, two := []byte(number(t, 25)), []byte(number(t, 25))
	one[0] = 'x'
	if string(two) != "25;" || number(t, 25) != "25;" {
		t.Errorf("shared: %q", two)
	}
}

func TestExamples(t *testing.T) {
	if number(t, 0) != "0;" || number(t, 25) != "25;" {
		t.Error("Number")
	}
	if b, e := codec.Number(-1); len(b) != 0 || e != api.ErrCodecLong {
		t.Error("Number(-1)", b, e)
	}
	takesNumber(t, "25;x", 25, 3, api.OK)
	takesNumber(t, "025;", 0, 0, api.ErrCodecForm)
	takesNumber(t, ";", 0, 0, api.ErrCodecForm)
	takesNumber(t, "25", 0, 0, api.ErrCodecShort)
	takesNumber(t, strings.Repeat("1", 17), 0, 0, api.ErrCodecForm)
	if text(t, "a,b") != "3:a,b," || text(t, "") != "0:," {
		t.Error("Text")
	}
	takesText(t, "1:ab", "", 0, api.ErrCodecForm)
	takesText(t, "2:a", "", 0, api.ErrCodecShort)
	takesText(t, "9999999:", "", 0, api.ErrCodecLong)
	if n := codec.Sum([]byte("123456789")); n != 0xCBF43926 || codec.Hex(n) != "cbf43926" {
		t.Errorf("Sum %#x, Hex %q", n, codec.Hex(n))
	}
}
