package record_test

import (
	"math/rand/v2"
	"strings"
	"testing"

	"waybill/api"
	"waybill/record"
)

// sealedAs is bytes ahead of the sum, no mark among them but pending ones, with their sum.
func sealedAs(s string) string { return sealed(s, s) }

func TestP3_2Decode(t *testing.T) {
	reads(t, laid(smallest()), smallest())
	for _, x := range turns() {
		if x.e == api.OK {
			m := turned(x.turn)
			reads(t, laid(m), m)
		}
	}
}

func TestP3_2DecodeOfWhatMayNotBe(t *testing.T) {
	for _, x := range turns() {
		if x.e != api.OK {
			refuses(t, laid(turned(x.turn)), api.ErrRecordForm)
		}
	}
}

func TestP3_2EachThingOfAnotherForm(t *testing.T) {
	long := strings.Repeat("a", api.MaxAddr+1)
	many := strings.Repeat("rP1:a,", api.MaxRcpts+1)
	for _, s := range []string{
		"", "x", "\n",
		"w1;t7;f0:,n1;rP1:a,d0:,",
		"W2;t7;f0:,n1;rP1:a,d0:,",
		"W1:t7;f0:,n1;rP1:a,d0:,",
		" W1;t7;f0:,n1;rP1:a,d0:,",
		"W1;W1;t7;f0:,n1;rP1:a,d0:,",
		"W1;\nt7;f0:,n1;rP1:a,d0:,",
		"W1;T7;f0:,n1;rP1:a,d0:,",
		"W1;f0:,t7;n1;rP1:a,d0:,",

		"W1;t;f0:,n1;rP1:a,d0:,",
		"W1;t07;f0:,n1;rP1:a,d0:,",
		"W1;t-7;f0:,n1;rP1:a,d0:,",
		"W1;t+7;f0:,n1;rP1:a,d0:,",
		"W1;t 7;f0:,n1;rP1:a,d0:,",
		"W1;t7:f0:,n1;rP1:a,d0:,",
		"W1;t9007199254740993;f0:,n1;rP1:a,d0:,",
		"W1;t12345678901234567;f0:,n1;rP1:a,d0:,",

		"W1;t7;F0:,n1;rP1:a,d0:,",
		"W1;t7;n1;rP1:a,d0:,",
		"W1;t7;f:,n1;rP1:a,d0:,",
		"W1;t7;f0;,n1;rP1:a,d0:,",
		"W1;t7;f00:,n1;rP1:a,d0:,",
		"W1;t7;f1:,n1;rP1:a,d0:,",
		"W1;t7;f0:;n1;rP1:a,d0:,",
		"W1;t7;f1:\x1f,n1;rP1:a,d0:,",
		"W1;t7;f1:\x7f,n1;rP1:a,d0:,",
		"W1;t7;f1:\n,n1;rP1:a,d0:,",
		"W1;t7;f3:a\xffb,n1;rP1:a,d0:,",
		"W1;t7;f321:" + long + ",n1;rP1:a,d0:,",
		"W1;t7;f1048577:" + long + ",n1;rP1:a,d0:,",

		"W1;t7;f0:,N1;rP1:a,d0:,",
		"W1;t7;f0:,rP1:a,d0:,",
		"W1;t7;f0:,n;rP1:a,d0:,",
		"W1;t7;f0:,n01;rP1:a,d0:,",
		"W1;t7;f0:,n-1;rP1:a,d0:,",
		"W1;t7;f0:,n1:rP1:a,d0:,",
		"W1;t7;f0:,n0;d0:,",
		"W1;t7;f0:,n0;rP1:a,d0:,",
		"W1;t7;f0:,n2;rP1:a,d0:,",
		"W1;t7;f0:,n1;rP1:a,rP1:a,d0:,",
		"W1;t7;f0:,n201;" + many + "d0:,",
		"W1;t7;f0:,n9007199254740992;rP1:a,d0:,",
		"W1;t7;f0:,n9007199254740993;rP1:a,d0:,",

		"W1;t7;f0:,n1;RP1:a,d0:,",
		"W1;t7;f0:,n1;P1:a,d0:,",
		"W1;t7;f0:,n1;d0:,",
		"W1;t7;f0:,n1;r1:a,d0:,",
		"W1;t7;f0:,n1;rp1:a,d0:,",
		"W1;t7;f0:,n1;rPP1:a,d0:,",
		"W1;t7;f0:,n1;rP:a,d0:,",
		"W1;t7;f0:,n1;rP01:a,d0:,",
		"W1;t7;f0:,n1;rP1;a,d0:,",
		"W1;t7;f0:,n1;rP1:a;d0:,",
		"W1;t7;f0:,n1;rP0:,d0:,",
		"W1;t7;f0:,n1;rP1:\x1f,d0:,",
		"W1;t7;f0:,n1;rP1:\x7f,d0:,",
		"W1;t7;f0:,n1;rP3:a\nb,d0:,",
		"W1;t7;f0:,n1;rP321:" + long + ",d0:,",
		"W1;t7;f0:,n1;rP1048577:" + long + ",d0:,",
		"W1;t7;f0:,n2;rP1:a,rP0:,d0:,",

		"W1;t7;f0:,n1;rP1:a,D0:,",
		"W1;t7;f0:,n1;rP1:a,0:,",
		"W1;t7;f0:,n1;rP1:a,",
		"W1;t7;f0:,n1;rP1:a,d:,",
		"W1;t7;f0:,n1;rP1:a,d00:,",
		"W1;t7;f0:,n1;rP1:a,d01:x,",
		"W1;t7;f0:,n1;rP1:a,d0;,",
		"W1;t7;f0:,n1;rP1:a,d0:",
		"W1;t7;f0:,n1;rP1:a,d1:,",
		"W1;t7;f0:,n1;rP1:a,d1:xx,",
		"W1;t7;f0:,n1;rP1:a,d1048577:x,",
		"W1;t7;f0:,n1;rP1:a,d10000000:x,",
		"W1;t7;f0:,n1;rP1:a,d0:,d0:,",
		"W1;t7;f0:,n1;rP1:a,d0:,\n",
	} {
		refuses(t, sealedAs(s), api.ErrRecordForm)
	}
}

// small is bytes up to the sum, and this.
const (
	small    = "W1;t7;f0:,n1;rP1:a,d0:,"
	smallSum = "58bba685"
)

func TestP3_2TheSumsDigitsAndTheEnd(t *testing.T) {
	if sealedAs(small) != small+"e"+smallSum+"\n" {
		t.Fatalf("%q", sealedAs(small))
	}
	for _, x := range []struct {
		end string
		e   api.Errno
	}{
		{"", api.ErrRecordShort},
		{"e", api.ErrRecordShort},
		{"e" + smallSum[:7], api.ErrRecordShort},
		{"e" + smallSum, api.ErrRecordShort},
		{"e" + smallSum[:6] + "\n", api.ErrRecordShort},
		{"exxxxxxx", api.ErrRecordShort},
		{"e00000000", api.ErrRecordShort},

		{"E" + smallSum + "\n", api.ErrRecordForm},
		{smallSum + "\n", api.ErrRecordForm},
		{"x", api.ErrRecordForm},
		{"e" + smallSum[:7] + "\n", api.ErrRecordForm},
		{"e" + strings.ToUpper(smallSum) + "\n", api.ErrRecordForm},
		{"e" + strings.ToUpper(smallSum), api.ErrRecordForm},
		{"e0x123456\n", api.ErrRecordForm},
		{"e" + smallSum + smallSum, api.ErrRecordForm},
		{"e" + smallSum + "\r", api.ErrRecordForm},
		{"e" + smallSum + "\r\n", api.ErrRecordForm},
		{"e" + smallSum + ";\n", api.ErrRecordForm},
		{"e0" + smallSum + "\n", api.ErrRecordForm},

		{"e" + smallSum + "\n\n", api.ErrRecordForm},
		{"e" + smallSum + "\n\x00", api.ErrRecordForm},
		{"e" + smallSum + "\n" + sealedAs(small), api.ErrRecordForm},
		{"e00000000\nx", api.ErrRecordForm},
		{"e00000000x", api.ErrRecordForm},

		{"e00000000\n", api.ErrRecordSum},
		{"effffffff\n", api.ErrRecordSum},
		{"e58bba684\n", api.ErrRecordSum},
	} {
		refuses(t, small+x.end, x.e)
	}
}

func TestP3_2TheSumIsOfPendingMarks(t *testing.T) {
	m := ordinary()
	refuses(t, sealed(body(m, false), body(m, false)), api.ErrRecordSum)
	refuses(t, sealed(body(m, false), ""), api.ErrRecordSum)
	refuses(t, sealed(body(m, false), body(m, true)+"e"), api.ErrRecordSum)
}

// TestP3_2WhichIsFirst: what stands further ahead is what is told, and at one thing that it is torn.
func TestP3_2WhichIsFirst(t *testing.T) {
	long := strings.Repeat("a", api.MaxAddr+1)
	for _, x := range []struct {
		b string
		e api.Errno
	}{
		{"", api.ErrRecordShort},
		{"W", api.ErrRecordShort},
		{"W1", api.ErrRecordShort},
		{"X", api.ErrRecordForm},
		{"Wx", api.ErrRecordForm},
		{"W1,", api.ErrRecordForm},
		{"W1;x", api.ErrRecordForm},

		{"W1;t9007199254740993", api.ErrRecordShort},
		{"W1;t9007199254740993;", api.ErrRecordForm},
		{"W1;t0;x", api.ErrRecordForm},

		{"W1;t7;f1:\n", api.ErrRecordShort},
		{"W1;t7;f2:\n\n", api.ErrRecordShort},
		{"W1;t7;f1:\n,", api.ErrRecordForm},
		{"W1;t7;f321:", api.ErrRecordShort},
		{"W1;t7;f321:" + long, api.ErrRecordShort},
		{"W1;t7;f321:" + long + ",", api.ErrRecordForm},
		{"W1;t7;f1048576:", api.ErrRecordShort},
		{"W1;t7;f1048577", api.ErrRecordShort},
		{"W1;t7;f1048577:", api.ErrRecordForm},

		{"W1;t7;f0:,n0", api.ErrRecordShort},
		{"W1;t7;f0:,n0;", api.ErrRecordForm},
		{"W1;t7;f0:,n201", api.ErrRecordShort},
		{"W1;t7;f0:,n201;", api.ErrRecordForm},
		{"W1;t7;f0:,n200;", api.ErrRecordShort},
		{"W1;t7;f1:\n,n201;", api.ErrRecordForm},

		{"W1;t7;f0:,n1;rQ", api.ErrRecordForm},
		{"W1;t7;f0:,n1;rP0:", api.ErrRecordShort},
		{"W1;t7;f0:,n1;rP0:,", api.ErrRecordForm},
		{"W1;t7;f0:,n1;rP321:" + long, api.ErrRecordShort},
		{"W1;t7;f0:,n1;rP321:" + long + ",", api.ErrRecordForm},
		{"W1;t7;f0:,n1;rQ1", api.ErrRecordForm},
		{"W1;t7;f0:,n2;rP1:a,", api.ErrRecordShort},
		{"W1;t7;f0:,n2;rP1:a,r", api.ErrRecordShort},

		{"W1;t7;f0:,n1;rP1:a,d1048576:", api.ErrRecordShort},
		{"W1;t7;f0:,n1;rP1:a,d1048577", api.ErrRecordShort},
		{"W1;t7;f0:,n1;rP1:a,d1048577:", api.ErrRecordForm},

		{sealed("W1;t7;f1:\n,n1;rP1:a,d0:,", ""), api.ErrRecordForm},
		{sealed("W1;t7;f0:,n1;rQ1:a,d0:,", ""), api.ErrRecordForm},
		{sealed("W1;t7;f0:,n1;rP0:,d0:,", "") + "behind", api.ErrRecordForm},
	} {
		refuses(t, x.b, x.e)
	}
}

// part is bytes that stand one behind the other in a record, and which others in the place of one of them lead to another sum, not to another form.
type part struct{ bytes, others string }

const (
	digits = "0123456789"
	hex    = digits + "abcdef"
)

// parts are those of the bytes of partsMessage, all but the marks. Its lengths are such that with another digit as one no `,` stands where it must, so that nothing but the time, the texts and the sum has others.
func parts() []part {
	allowed := string(eachByte()[32:127])
	whole := laid(partsMessage())
	return []part{
		{"W1;t", ""}, {"1", digits[1:]}, {"2", digits}, {";f3:", ""}, {"f@x", allowed}, {",n2;r", ""},
		{"P", ""}, {"3:", ""}, {"a@b", allowed}, {",r", ""},
		{"D", ""}, {"5:", ""}, {"c d@e", allowed}, {",d2:", ""}, {"xy", string(eachByte())}, {",e", ""},
		{whole[len(whole)-9 : len(whole)-1], hex}, {"\n", ""},
	}
}

func partsMessage() api.Message {
	return api.Message{Time: 12, From: "f@x", Rcpts: []api.Rcpt{{To: "a@b", Mark: 'P'}, {To: "c d@e", Mark: 'D'}}, Data: []byte("xy")}
}

func TestP3_2EachByteReplaced(t *testing.T) {
	at := 0
	whole := laid(partsMessage())
	for _, p := range parts() {
		for range len(p.bytes) {
			for c := range 256 {
				b := []byte(whole)
				b[at] = byte(c)
				m, e := record.Decode(b)
				want := api.ErrRecordForm
				if whole[at] == byte(c) || isMarkOfParts(whole, at) && strings.IndexByte("PDBX", byte(c)) >= 0 {
					want = api.OK
				} else if strings.IndexByte(p.others, byte(c)) >= 0 {
					want = api.ErrRecordSum
				}
				if e != want {
					t.Errorf("%q: %v, not %v", b, e, want)
				}
				if e == api.OK && laid(m) != string(b) || e != api.OK && !same(m, api.Message{}) {
					t.Errorf("%q: %v %v", b, m, e)
				}
			}
			at++
		}
	}
	if at != len(whole) {
		t.Errorf("%d bytes of %d", at, len(whole))
	}
}

func isMarkOfParts(whole string, at int) bool {
	return at > 0 && whole[at-1] == 'r'
}

func TestP3_5EachBeginningIsShort(t *testing.T) {
	for _, m := range append(someMessages()[:100], turned(toMany(api.MaxRcpts))) {
		b := laid(m)
		if encoded(t, m) != b {
			t.Errorf("other bytes: %s", short(b))
		}
		for i := range len(b) {
			refuses(t, b[:i], api.ErrRecordShort)
		}
	}
	b := laid(turned(data(api.MaxData)))
	for i := 0; i < len(b); i += 1 + i/30 {
		refuses(t, b[:i], api.ErrRecordShort)
	}
	for i := len(b) - 12; i < len(b); i++ {
		refuses(t, b[:i], api.ErrRecordShort)
	}
}

func TestP3_5AnythingBehindIsAnotherForm(t *testing.T) {
	for _, m := range append(someMessages()[:20], turned(data(api.MaxData))) {
		b := encoded(t, m)
		for c := range 256 {
			refuses(t, b+string([]byte{byte(c)}), api.ErrRecordForm)
			if len(m.Data) == api.MaxData && c > 3 {
				break
			}
		}
		refuses(t, b+b, api.ErrRecordForm)
		refuses(t, b+strings.Repeat("\n", 1000), api.ErrRecordForm)
	}
}

func TestP3_5OneByteOfDataTurned(t *testing.T) {
	for _, m := range someMessages()[:40] {
		b := []byte(encoded(t, m))
		first := len(body(m, false)) - 1 - len(m.Data)
		for i := first; i < first+len(m.Data); i++ {
			for _, turn := range []byte{1, 2, 4, 8, 16, 32, 64, 128, 255} {
				b[i] ^= turn
				refuses(t, string(b), api.ErrRecordSum)
				b[i] ^= turn
			}
		}
	}
}

// TestP1WhateverIsRead: bytes are read just if they are those of a message that may be, whatever else comes.
func TestP1WhateverIsRead(t *testing.T) {
	r := rand.New(rand.NewPCG(3, 1))
	check := func(b []byte) {
		m, e := record.Decode(b)
		switch e {
		case api.OK:
			if laid(m) != string(b) || record.Right(m) != api.OK {
				t.Errorf("Decode(%s): %v", short(string(b)), m)
			}
		case api.ErrRecordShort, api.ErrRecordForm, api.ErrRecordSum:
			if !same(m, api.Message{}) {
				t.Errorf("Decode(%s): %v %v", short(string(b)), m, e)
			}
		default:
			t.Errorf("Decode(%s): %v", short(string(b)), e)
		}
	}
	for _, m := range someMessages() {
		whole := []byte(laid(m))
		for range 50 {
			b := append([]byte{}, whole...)
			for range 1 + r.IntN(3) {
				i := r.IntN(len(b))
				switch r.IntN(3) {
				case 0:
					b[i] = "W1;tfnrPDBXde:,\n0123456789abcdef\x00\xff"[r.IntN(34)]
				case 1:
					b = append(b[:i], b[i+1:]...)
				case 2:
					b = append(b[:i], append([]byte{b[i]}, b[i:]...)...)
				}
			}
			check(b)
		}
	}
	check(nil)
	for _, s := range []string{"W", "W1;", "0", "\x00", "\n", "r"} {
		check([]byte(strings.Repeat(s, api.MaxRecord/len(s))))
	}
}
