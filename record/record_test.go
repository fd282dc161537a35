package record_test

import (
	"bytes"
	"fmt"
	"hash/crc32"
	"math"
	"math/rand/v2"
	"slices"
	"strings"
	"testing"

	"waybill/api"
	"waybill/record"
)

const maxTime = 1 << 53

// ordinary is a message such as is queued.
func ordinary() api.Message {
	return api.Message{
		Time:  12,
		From:  "joe@x.example",
		Rcpts: []api.Rcpt{{To: "ann@y.example", Mark: 'P'}, {To: "\"c d\"@e", Mark: 'D'}, {To: "bob@[1.2.3.4]", Mark: 'B'}, {To: "x", Mark: 'X'}},
		Data:  []byte("Subject: hi\r\n\r\nW1;t12;f\r\n"),
	}
}

// smallest is the message of the chapter's examples.
func smallest() api.Message {
	return api.Message{Time: 7, Rcpts: []api.Rcpt{{To: "a@b", Mark: 'P'}}}
}

func copyOf(m api.Message) api.Message {
	m.Rcpts = slices.Clone(m.Rcpts)
	m.Data = bytes.Clone(m.Data)
	return m
}

func same(a, b api.Message) bool {
	return a.Time == b.Time && a.From == b.From && slices.Equal(a.Rcpts, b.Rcpts) && bytes.Equal(a.Data, b.Data)
}

// body lays a message down as the chapter says it, up to the sum, and whether it may be or not; all marks are those of the message, or all are pending.
func body(m api.Message, pending bool) string {
	s := fmt.Sprintf("W1;t%d;f%d:%s,n%d;", m.Time, len(m.From), m.From, len(m.Rcpts))
	for _, r := range m.Rcpts {
		if pending {
			r.Mark = 'P'
		}
		s += fmt.Sprintf("r%s%d:%s,", []byte{r.Mark}, len(r.To), r.To)
	}
	return s + fmt.Sprintf("d%d:%s,", len(m.Data), m.Data)
}

func laid(m api.Message) string {
	return sealed(body(m, false), body(m, true))
}

// sealed is bytes with the sum of what stands there with each mark pending.
func sealed(s, pending string) string {
	return fmt.Sprintf("%se%08x\n", s, crc32.ChecksumIEEE([]byte(pending)))
}

func encoded(t *testing.T, m api.Message) string {
	t.Helper()
	b, e := record.Encode(m)
	if e != api.OK {
		t.Fatalf("Encode of %s: %v", short(body(m, false)), e)
	}
	return string(b)
}

func reads(t *testing.T, b string, m api.Message) {
	t.Helper()
	if got, e := record.Decode([]byte(b)); !same(got, m) || e != api.OK {
		t.Errorf("Decode(%s): %s %v, not %s", short(b), short(body(got, false)), e, short(body(m, false)))
	}
}

func refuses(t *testing.T, b string, want api.Errno) {
	t.Helper()
	m, e := record.Decode([]byte(b))
	if e != want {
		t.Errorf("Decode(%s): %v, not %v", short(b), e, want)
	}
	if !same(m, api.Message{}) {
		t.Errorf("Decode(%s): with an error it tells %s", short(b), short(body(m, false)))
	}
}

// short keeps what is told of great bytes readable.
func short(s string) string {
	if len(s) > 120 {
		return fmt.Sprintf("%q .. %q of %d bytes", s[:60], s[len(s)-60:], len(s))
	}
	return fmt.Sprintf("%q", s)
}

// turned is an ordinary message with something else about it.
func turned(turn func(m *api.Message)) api.Message {
	m := ordinary()
	turn(&m)
	return m
}

func rcpts(n int) []api.Rcpt {
	l := make([]api.Rcpt, n)
	for i := range l {
		l[i] = api.Rcpt{To: fmt.Sprintf("u%d@x", i), Mark: "PDBX"[i%4]}
	}
	return l
}

func times(n int) func(*api.Message)   { return func(m *api.Message) { m.Time = n } }
func from(s string) func(*api.Message) { return func(m *api.Message) { m.From = s } }
func firstTo(s string) func(*api.Message) {
	return func(m *api.Message) { m.Rcpts[0].To = s }
}
func lastTo(s string) func(*api.Message) {
	return func(m *api.Message) { m.Rcpts[len(m.Rcpts)-1].To = s }
}
func marked(c byte) func(*api.Message) {
	return func(m *api.Message) { m.Rcpts[len(m.Rcpts)-1].Mark = c }
}
func toMany(n int) func(*api.Message) { return func(m *api.Message) { m.Rcpts = rcpts(n) } }
func data(n int) func(*api.Message) {
	return func(m *api.Message) { m.Data = bytes.Repeat([]byte("x"), n) }
}

func both(turns ...func(*api.Message)) func(*api.Message) {
	return func(m *api.Message) {
		for _, turn := range turns {
			turn(m)
		}
	}
}

// turn is what is turned about an ordinary message, and what Right says of that.
type turn struct {
	what string
	turn func(*api.Message)
	e    api.Errno
}

func turns() []turn {
	most := strings.Repeat("a", api.MaxAddr)
	l := []turn{
		{"nothing", func(*api.Message) {}, api.OK},
		{"Time 0", times(0), api.OK},
		{"Time 2^53", times(maxTime), api.OK},
		{"Time 2^53 + 1", times(maxTime + 1), api.ErrRecordForm},
		{"the greatest Time", times(math.MaxInt), api.ErrRecordForm},
		{"Time -1", times(-1), api.ErrRecordForm},
		{"the least Time", times(math.MinInt), api.ErrRecordForm},
		{"no recipients", toMany(0), api.ErrRecordForm},
		{"nil as recipients", func(m *api.Message) { m.Rcpts = nil }, api.ErrRecordForm},
		{"one recipient", toMany(1), api.OK},
		{"MaxRcpts", toMany(api.MaxRcpts), api.OK},
		{"MaxRcpts + 1", toMany(api.MaxRcpts + 1), api.ErrRecordLong},
		{"many recipients", toMany(10 * api.MaxRcpts), api.ErrRecordLong},
		{"the same recipient twice", func(m *api.Message) { m.Rcpts[1] = m.Rcpts[0] }, api.OK},
		{"empty From", from(""), api.OK},
		{"empty To", firstTo(""), api.ErrRecordForm},
		{"empty last To", lastTo(""), api.ErrRecordForm},
		{"no Data", data(0), api.OK},
		{"nil as Data", func(m *api.Message) { m.Data = nil }, api.OK},
		{"one byte of Data", data(1), api.OK},
		{"MaxData", data(api.MaxData), api.OK},
		{"MaxData + 1", data(api.MaxData + 1), api.ErrRecordLong},
		{"each byte as Data", func(m *api.Message) { m.Data = eachByte() }, api.OK},
	}
	for what, address := range map[string]func(string) func(*api.Message){"From": from, "first To": firstTo, "last To": lastTo} {
		l = append(l,
			turn{what + " of 1 byte", address("a"), api.OK},
			turn{what + " of MaxAddr", address(most), api.OK},
			turn{what + " of MaxAddr + 1", address(most + "a"), api.ErrRecordLong},
			turn{what + " of MaxText + 1", address(strings.Repeat("a", api.MaxText+1)), api.ErrRecordLong},
			turn{what + " of other letters", address("\xc3\xa4@b"), api.ErrRecordForm},
		)
		for c := range 256 {
			e := api.OK
			if c < 32 || c > 126 {
				e = api.ErrRecordForm
			}
			s := string([]byte{byte(c)})
			l = append(l,
				turn{fmt.Sprintf("%s of the byte %d", what, c), address(s), e},
				turn{fmt.Sprintf("%s that ends with the byte %d", what, c), address("a@b" + s), e},
			)
		}
	}
	for c := range 256 {
		e := api.ErrRecordForm
		if strings.IndexByte("PDBX", byte(c)) >= 0 {
			e = api.OK
		}
		l = append(l, turn{fmt.Sprintf("the mark %d", c), marked(byte(c)), e})
	}
	return append(l, severalTurns()...)
}

// severalTurns are several faults at once: what is too long is told first, wherever it is.
func severalTurns() []turn {
	long := strings.Repeat("\n", api.MaxAddr+1)
	return []turn{
		{"long From of bytes that may not be", from(long), api.ErrRecordLong},
		{"long To of bytes that may not be", lastTo(long), api.ErrRecordLong},
		{"Time and long Data", both(times(-1), data(api.MaxData+1)), api.ErrRecordLong},
		{"Time and many recipients", both(times(-1), toMany(api.MaxRcpts+1)), api.ErrRecordLong},
		{"Time and a long From", both(times(-1), from(long)), api.ErrRecordLong},
		{"Time and a long last To", both(times(maxTime+1), lastTo(long)), api.ErrRecordLong},
		{"From and a long last To", both(from("\n"), lastTo(long)), api.ErrRecordLong},
		{"first To and a long last To", both(firstTo(""), lastTo(long)), api.ErrRecordLong},
		{"mark and a long last To", both(marked('Q'), lastTo(long)), api.ErrRecordLong},
		{"mark and long Data", both(marked('Q'), data(api.MaxData+1)), api.ErrRecordLong},
		{"no recipients and long Data", both(toMany(0), data(api.MaxData+1)), api.ErrRecordLong},
		{"no recipients and a long From", both(toMany(0), from(long)), api.ErrRecordLong},
		{"recipients that are none, and too many", func(m *api.Message) { m.Rcpts = make([]api.Rcpt, api.MaxRcpts+1) }, api.ErrRecordLong},
		{"Time and From", both(times(-1), from("\n")), api.ErrRecordForm},
		{"To and mark", both(lastTo(""), marked('p')), api.ErrRecordForm},
	}
}

func eachByte() []byte {
	b := make([]byte, 256)
	for i := range b {
		b[i] = byte(i)
	}
	return b
}

func TestP3_1Right(t *testing.T) {
	for _, x := range turns() {
		if e := record.Right(turned(x.turn)); e != x.e {
			t.Errorf("%s: %v, not %v", x.what, e, x.e)
		}
	}
	if e := record.Right(api.Message{}); e != api.ErrRecordForm {
		t.Errorf("of the zero message: %v", e)
	}
}

func TestP3_1Encode(t *testing.T) {
	for _, x := range turns() {
		m := turned(x.turn)
		want := ""
		if x.e == api.OK {
			want = laid(m)
		}
		if b, e := record.Encode(m); string(b) != want || e != x.e {
			t.Errorf("%s: %s %v, not %s %v", x.what, short(string(b)), e, short(want), x.e)
		}
	}
	if b, e := record.Encode(api.Message{}); len(b) != 0 || e != api.ErrRecordForm {
		t.Errorf("of the zero message: %q %v", b, e)
	}
}

func TestP3_1EncodedBytes(t *testing.T) {
	for _, x := range []struct {
		m    api.Message
		want string
	}{
		{smallest(), "W1;t7;f0:,n1;rP3:a@b,d0:,e"},
		{api.Message{From: "f@x", Rcpts: []api.Rcpt{{To: "a,b", Mark: 'D'}, {To: "c", Mark: 'X'}}, Data: []byte("x,\n")}, "W1;t0;f3:f@x,n2;rD3:a,b,rX1:c,d3:x,\n,e"},
		{api.Message{Time: maxTime, From: "a b", Rcpts: []api.Rcpt{{To: "0123456789", Mark: 'B'}}}, "W1;t9007199254740992;f3:a b,n1;rB10:0123456789,d0:,e"},
	} {
		b := encoded(t, x.m)
		if !strings.HasPrefix(b, x.want) || len(b) != len(x.want)+9 || b[len(b)-1] != '\n' {
			t.Errorf("%q, not %q, eight digits and a byte 10", b, x.want)
		}
	}
}

func TestP3_1TheSumTakesEachMarkAsPending(t *testing.T) {
	m := ordinary()
	b := encoded(t, m)
	sum := b[len(b)-9:]
	for _, marks := range []string{"PPPP", "DDDD", "BBBB", "XXXX", "PDBX", "XBDP"} {
		for i := range m.Rcpts {
			m.Rcpts[i].Mark = marks[i]
		}
		if b := encoded(t, m); !strings.HasSuffix(b, sum) {
			t.Errorf("with the marks %s: %q, not %q", marks, b[len(b)-9:], sum)
		}
	}
}

// marksAt holds what MarkAt tells against where the marks stand in the bytes of the same message with less and less recipients ahead.
func marksAt(t *testing.T, m api.Message) {
	t.Helper()
	at := len(fmt.Sprintf("W1;t%d;f%d:%s,n%d;", m.Time, len(m.From), m.From, len(m.Rcpts)))
	for i, r := range m.Rcpts {
		if got, e := record.MarkAt(m, i); got != at+1 || e != api.OK {
			t.Errorf("MarkAt(%d): %d %v, not %d", i, got, e, at+1)
		}
		at += len(fmt.Sprintf("rP%d:%s,", len(r.To), r.To))
	}
	for _, i := range []int{-1, -2, math.MinInt, len(m.Rcpts), len(m.Rcpts) + 1, api.MaxRcpts, math.MaxInt} {
		if i >= 0 && i < len(m.Rcpts) {
			continue
		}
		if got, e := record.MarkAt(m, i); got != 0 || e != api.ErrArg {
			t.Errorf("MarkAt(%d): %d %v", i, got, e)
		}
	}
}

func TestP3_3MarkAt(t *testing.T) {
	for _, x := range turns() {
		m := turned(x.turn)
		if x.e == api.OK {
			marksAt(t, m)
			continue
		}
		for _, i := range []int{0, len(m.Rcpts) - 1, -1, len(m.Rcpts)} {
			if got, e := record.MarkAt(m, i); got != 0 || e != x.e {
				t.Errorf("%s: MarkAt(%d): %d %v, not %v", x.what, i, got, e, x.e)
			}
		}
	}
}

func TestP3_4IsReadAgain(t *testing.T) {
	for _, x := range turns() {
		if x.e == api.OK {
			m := turned(x.turn)
			reads(t, encoded(t, m), m)
		}
	}
	for _, m := range someMessages() {
		reads(t, encoded(t, m), m)
	}
}

// someMessages are such as may be, by a rule that is the same each time.
func someMessages() []api.Message {
	r := rand.New(rand.NewPCG(3, 4))
	address := func(least int) string {
		b := make([]byte, least+r.IntN(1+r.IntN(40)))
		for i := range b {
			b[i] = byte(32 + r.IntN(95))
		}
		return string(b)
	}
	l := []api.Message{ordinary(), smallest()}
	for range 300 {
		m := api.Message{Time: int(r.Uint64N(maxTime+1) >> r.IntN(53)), From: address(0), Data: make([]byte, r.IntN(1+r.IntN(300)))}
		for range 1 + r.IntN(1+r.IntN(api.MaxRcpts)) {
			m.Rcpts = append(m.Rcpts, api.Rcpt{To: address(1), Mark: "PDBX"[r.IntN(4)]})
		}
		for i := range m.Data {
			m.Data[i] = byte(r.Uint32())
		}
		l = append(l, m)
	}
	return l
}

func TestP3_4AnotherMarkInItsPlace(t *testing.T) {
	for _, m := range append(someMessages()[:60], turned(toMany(api.MaxRcpts)), turned(data(api.MaxData))) {
		b := []byte(encoded(t, m))
		for i, r := range m.Rcpts {
			at, e := record.MarkAt(m, i)
			if e != api.OK || b[at] != r.Mark {
				t.Fatalf("MarkAt(%d): %d %v", i, at, e)
			}
			for _, c := range []byte("PDBX") {
				b[at] = c
				m.Rcpts[i].Mark = c
				reads(t, string(b), m)
			}
		}
		if again := encoded(t, m); again != string(b) {
			t.Errorf("encoded with the marks turned: %s, not %s", short(again), short(string(b)))
		}
	}
}

func TestR3WhatIsHandedInStays(t *testing.T) {
	m, was := ordinary(), ordinary()
	if e := record.Right(m); e != api.OK || !same(m, was) {
		t.Errorf("Right: %v %v", e, m)
	}
	if _, e := record.MarkAt(m, 1); e != api.OK || !same(m, was) {
		t.Errorf("MarkAt: %v %v", e, m)
	}
	b, e := record.Encode(m)
	if e != api.OK || !same(m, was) {
		t.Errorf("Encode: %v %v", e, m)
	}
	room := append(bytes.Clone(b), "behind"...)
	got, e := record.Decode(room[:len(b)])
	if e != api.OK || string(room) != string(b)+"behind" || !same(got, was) {
		t.Errorf("Decode: %v %q", e, room)
	}
}

func TestR3NothingIsShared(t *testing.T) {
	m, was := ordinary(), ordinary()
	one, _ := record.Encode(m)
	two, _ := record.Encode(m)
	clear(one)
	if string(two) != laid(was) || !same(m, was) {
		t.Error("Encode shares what it tells")
	}
	clear(m.Data)
	m.Rcpts[0] = api.Rcpt{}
	if string(two) != laid(was) {
		t.Error("Encode shares what is handed in")
	}
	first, _ := record.Decode(two)
	second, _ := record.Decode(two)
	clear(two)
	if !same(first, was) {
		t.Error("Decode shares what is handed in")
	}
	clear(first.Data)
	clear(first.Rcpts)
	if !same(second, was) {
		t.Error("Decode shares what it tells")
	}
}

func TestExamples(t *testing.T) {
	m := smallest()
	b := encoded(t, m)
	if head := "W1;t7;f0:,n1;rP3:a@b,d0:,"; b != sealed(head, head) {
		t.Errorf("%q", b)
	}
	if at, e := record.MarkAt(m, 0); at != 14 || e != api.OK {
		t.Errorf("MarkAt 0: %d %v", at, e)
	}
	if at, e := record.MarkAt(m, 1); at != 0 || e != api.ErrArg {
		t.Errorf("MarkAt 1: %d %v", at, e)
	}
	refuses(t, b[:len(b)-1], api.ErrRecordShort)
	refuses(t, b+" ", api.ErrRecordForm)
	refuses(t, b[:14]+"Q"+b[15:], api.ErrRecordForm)
	if e := record.Right(api.Message{Time: 7}); e != api.ErrRecordForm {
		t.Errorf("without recipients: %v", e)
	}
	m.Rcpts[0].To = "\n"
	if e := record.Right(m); e != api.ErrRecordForm {
		t.Errorf("with the address of a byte 10: %v", e)
	}
}
