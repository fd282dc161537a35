package queuefs_test

import (
	"bytes"
	"math"
	"slices"
	"strconv"
	"strings"
	"testing"

	"waybill/api"
	"waybill/queuefs"
)

func without(m api.Message, turn func(m *api.Message)) api.Message {
	turn(&m)
	return m
}

func wrongMessages() map[string]api.Message {
	return map[string]api.Message{
		"nobody":       without(letter(1), func(m *api.Message) { m.Rcpts = nil }),
		"time":         without(letter(1), func(m *api.Message) { m.Time = -1 }),
		"from":         without(letter(1), func(m *api.Message) { m.From = "a\n" }),
		"mark":         without(letter(1), func(m *api.Message) { m.Rcpts = []api.Rcpt{{To: "a@b"}} }),
		"address":      without(letter(1), func(m *api.Message) { m.Rcpts = []api.Rcpt{{Mark: 'P'}} }),
		"all of it":    {},
		"far too late": without(letter(1), func(m *api.Message) { m.Time = math.MaxInt }),
	}
}

func longMessages() map[string]api.Message {
	return map[string]api.Message{
		"data": without(letter(1), func(m *api.Message) { m.Data = make([]byte, api.MaxData+1) }),
		"from": without(letter(1), func(m *api.Message) { m.From = strings.Repeat("a", api.MaxAddr+1) }),
		"many": without(letter(1), func(m *api.Message) {
			m.Rcpts = slices.Repeat([]api.Rcpt{{To: "a@b", Mark: 'P'}}, api.MaxRcpts+1)
		}),
	}
}

func TestP4_3Put(t *testing.T) {
	for _, dir := range theQueues {
		d, q := fresh(t)
		put(t, q, dir, letter(1), "Q1")
		holds(t, d, dir+"/Q1", bytesOf(t, letter(1)), "tmp/next", "65;")
		lasts(t, d)
		put(t, q, dir, letter(2), "Q2")
		holds(t, d, dir+"/Q1", bytesOf(t, letter(1)), dir+"/Q2", bytesOf(t, letter(2)), "tmp/next", "65;")
		lasts(t, d)
		lies(t, q, "Q2", dir)
		loads(t, q, "Q1", letter(1))
		loads(t, q, "Q2", letter(2))
	}
}

func TestP4_3PutOfTheGreatest(t *testing.T) {
	d := diskOf(t, 1<<21, queuefs.Dirs()...)
	q := opened(t, d, api.QueueFound{})
	m := api.Message{Time: maxNumber, Data: bytes.Repeat([]byte("\x00\xff\r\n"), api.MaxData/4)}
	for i := range api.MaxRcpts {
		m.Rcpts = append(m.Rcpts, api.Rcpt{To: strings.Repeat("a", api.MaxAddr-3) + strconv.Itoa(100+i), Mark: "PDBX"[i%4]})
	}
	put(t, q, "hold", m, "Q1")
	loads(t, q, "Q1", m)
	fine(t, q.Mark("Q1", api.MaxRcpts-1, 'P'))
	m.Rcpts[api.MaxRcpts-1].Mark = 'P'
	loads(t, q, "Q1", m)
}

func TestP4_3PutRefused(t *testing.T) {
	d, q := fresh(t)
	before := state(d)
	for _, dir := range []string{"", "corrupt", "bounce", "tmp", "other", "Hold", "hold/", "hold/Q1", "mail", "\x00"} {
		putError(t, q, dir, letter(1), api.ErrQueueDir)
		putError(t, q, dir, api.Message{}, api.ErrQueueDir)
	}
	for what, m := range wrongMessages() {
		t.Log(what)
		putError(t, q, "hold", m, api.ErrRecordForm)
	}
	for what, m := range longMessages() {
		t.Log(what)
		putError(t, q, "hold", m, api.ErrRecordLong)
	}
	if state(d) != before {
		t.Error("the disk was changed:", state(d))
	}
	put(t, q, "hold", letter(1), "Q1")
}

func TestP4_3PutWithoutPower(t *testing.T) {
	d, q := fresh(t)
	powerOff(t, d)
	putError(t, q, "other", api.Message{}, api.ErrQueueDir)
	putError(t, q, "hold", api.Message{}, api.ErrRecordForm)
	putError(t, q, "hold", letter(1), api.ErrFsOff)
	d.Crash(nothing())
	put(t, q, "hold", letter(1), "Q1")
	powerOff(t, d)
	putError(t, q, "hold", letter(2), api.ErrFsOff) // Q2 is taken by that
	d.Crash(nothing())
	put(t, q, "hold", letter(3), "Q3")
}

// TestP4_3PutWithoutIds: that there are no more ids is told behind what is wrong with a message, and ahead of the power.
func TestP4_3PutWithoutIds(t *testing.T) {
	d := disk(t)
	lay(t, d, "corrupt/Q9007199254740992", "")
	q := opened(t, d, api.QueueFound{})
	putError(t, q, "other", api.Message{}, api.ErrQueueDir)
	putError(t, q, "hold", api.Message{}, api.ErrRecordForm)
	putError(t, q, "hold", letter(1), api.ErrQueueIds)
	powerOff(t, d)
	putError(t, q, "hold", letter(1), api.ErrQueueIds)

	d = disk(t)
	lay(t, d, "tmp/next", "9007199254740992;")
	q = opened(t, d, api.QueueFound{})
	powerOff(t, d)
	putError(t, q, "hold", letter(1), api.ErrFsOff)
	d.Crash(nothing())
	putError(t, q, "hold", letter(1), api.ErrQueueIds)
	holds(t, d, "tmp/next", "9007199254740992;", "tmp/next.new", "")
	opened(t, d, api.QueueFound{Dropped: 1})
}

func TestP4_3Ids(t *testing.T) {
	d, q := fresh(t)
	for n := 1; n <= 200; n++ {
		put(t, q, "hold", letter(n), "Q"+strconv.Itoa(n))
		want := []string{"65;", "129;", "193;", "257;"}[(n-1)/64]
		if b, _ := d.Read("tmp/next"); string(b) != want {
			t.Fatalf("behind Q%d tmp/next is %q", n, b)
		}
	}
	if d.Count() != 5+200*5+4*5 {
		t.Error("so many changes:", d.Count())
	}
	q = opened(t, d, api.QueueFound{Messages: 200})
	put(t, q, "hold", letter(300), "Q257")
	d.Crash(nothing())
	q = opened(t, d, api.QueueFound{Messages: 201})
	q = opened(t, d, api.QueueFound{Messages: 201})
	put(t, q, "hold", letter(301), "Q321")
	put(t, q, "hold", letter(302), "Q322")
}

func TestP4_3LastIds(t *testing.T) {
	d := disk(t)
	lay(t, d, "tmp/next", strconv.Itoa(maxNumber-64)+";")
	q := opened(t, d, api.QueueFound{})
	for n := maxNumber - 64; n < maxNumber; n++ {
		id := "Q" + strconv.Itoa(n)
		put(t, q, "hold", letter(1), id)
		loads(t, q, id, letter(1))
	}
	for range 2 {
		putError(t, q, "hold", letter(1), api.ErrQueueIds)
		if b, e := d.Read("tmp/next"); string(b) != "9007199254740992;" || e != api.OK {
			t.Errorf("tmp/next is %q", b)
		}
		if n, is := d.Len("tmp/next.new"); n != 0 || !is {
			t.Error("tmp/next.new:", n, is)
		}
	}
	d = disk(t)
	lay(t, d, "tmp/next", strconv.Itoa(maxNumber-63)+";")
	q = opened(t, d, api.QueueFound{})
	putError(t, q, "hold", letter(1), api.ErrQueueIds)
	holds(t, d, "tmp/next", strconv.Itoa(maxNumber-63)+";", "tmp/next.new", "")
}

// TestP4_3IdIsTaken: an id is taken whatever comes, but not ahead of its going so far.
func TestP4_3IdIsTaken(t *testing.T) {
	for n := 1; n <= 10; n++ {
		for _, e := range refusals {
			d, q := fresh(t)
			fine(t, d.Fail(n, e))
			putError(t, q, "hold", letter(1), e)
			want := "Q1"
			if n > 5 {
				want = "Q2"
			}
			put(t, q, "hold", letter(2), want)
			holds(t, d, "hold/"+want, bytesOf(t, letter(2)), "tmp/next", "65;")
		}
	}
}

// TestP4_3Made: what the disk refuses to make is not the queue's to unlink.
func TestP4_3Made(t *testing.T) {
	d, q := fresh(t)
	lay(t, d, "tmp/Q1", "mine")
	putError(t, q, "hold", letter(1), api.ErrFsThere)
	holds(t, d, "tmp/Q1", "mine", "tmp/next", "65;")
	put(t, q, "hold", letter(1), "Q2")
}

func TestP4_3Full(t *testing.T) {
	b := bytesOf(t, letter(1))
	d := diskOf(t, len(b)+2, queuefs.Dirs()...)
	q := opened(t, d, api.QueueFound{})
	putError(t, q, "hold", letter(1), api.ErrFsFull)
	holds(t, d, "tmp/next", "65;")
	d = diskOf(t, 2, queuefs.Dirs()...)
	q = opened(t, d, api.QueueFound{})
	putError(t, q, "hold", letter(1), api.ErrFsFull)
	holds(t, d, "tmp/next.new", "")
	d = diskOf(t, len(b)+3, queuefs.Dirs()...)
	q = opened(t, d, api.QueueFound{})
	put(t, q, "hold", letter(1), "Q1")
}

func TestP4_4Where(t *testing.T) {
	d, q := fresh(t)
	put(t, q, "maildrop", letter(1), "Q1")
	for i := len(theQueues) - 1; i >= 0; i-- {
		dir := theQueues[i]
		if dir != "maildrop" {
			lay(t, d, dir+"/Q1", bytesOf(t, letter(i)))
		}
		lies(t, q, "Q1", dir)
	}
	for _, dir := range []string{"bounce", "corrupt", "tmp"} {
		lay(t, d, dir+"/Q2", bytesOf(t, letter(1)))
		lies(t, q, "Q2", "")
		loadError(t, q, "Q2", api.ErrQueueNone)
	}
	powerOff(t, d)
	lies(t, q, "Q1", "")
}

// noIds are no names of messages, though some of them are files' names.
func noIds() []string {
	return []string{"", "Q", "Q0", "Q01", "q1", "1", "next", "odd", "Q1 ", " Q1", "Q1/", "/Q1", "hold/Q1", "../hold/Q1", "Q1;", "Q;", "Q-1", "Q+1", "Q1\x00", "Q9007199254740993", strings.Repeat("Q1", 100)}
}

func TestP4_4NoIds(t *testing.T) {
	d, q := fresh(t)
	put(t, q, "hold", letter(1), "Q1")
	fine(t, q.Log("Q1", "a"))
	for _, name := range []string{"odd", "Q01", "1", "Q"} {
		lay(t, d, "hold/"+name, bytesOf(t, letter(1)))
		lay(t, d, "bounce/"+name, textsOf(t, "a"))
	}
	before := state(d)
	for _, id := range noIds() {
		lies(t, q, id, "")
		loadError(t, q, id, api.ErrQueueNone)
		logged(t, q, id)
		for what, e := range map[string]api.Errno{
			"Move":   q.Move(id, "active"),
			"Mark":   q.Mark(id, 0, 'D'),
			"Remove": q.Remove(id),
			"Log":    q.Log(id, "a"),
			"Drop":   q.Drop(id),
		} {
			answers(t, what+" "+id, e, api.ErrQueueNone)
		}
	}
	if state(d) != before {
		t.Error("the disk was changed:", state(d))
	}
}

func TestP4_4WithoutPower(t *testing.T) {
	d, q := fresh(t)
	put(t, q, "hold", letter(1), "Q1")
	fine(t, q.Log("Q1", "a"))
	powerOff(t, d)
	for _, id := range append(noIds(), "Q1", "Q2") {
		lies(t, q, id, "")
		loadError(t, q, id, api.ErrFsOff)
		loggedError(t, q, id, api.ErrFsOff)
		for what, e := range map[string]api.Errno{
			"Move":                q.Move(id, "active"),
			"Move to where it is": q.Move(id, "hold"),
			"Move to corrupt":     q.Move(id, "corrupt"),
			"Mark":                q.Mark(id, 0, 'D'),
			"Mark, no such one":   q.Mark(id, 9, 'Z'),
			"Remove":              q.Remove(id),
			"Log":                 q.Log(id, "a"),
			"Log, long":           q.Log(id, strings.Repeat("a", 1001)),
			"Drop":                q.Drop(id),
		} {
			answers(t, what+" "+id, e, api.ErrFsOff)
		}
		answers(t, "Move to no queue", q.Move(id, "other"), api.ErrQueueDir)
	}
	for _, dir := range append(slices.Clone(theQueues), "corrupt") {
		listError(t, q, dir, api.ErrFsOff)
	}
	listError(t, q, "tmp", api.ErrQueueDir)
	d.Crash(nothing())
	loads(t, q, "Q1", letter(1))
	logged(t, q, "Q1", "a")
}

func TestP4_4Load(t *testing.T) {
	d, q := fresh(t)
	right := bytesOf(t, letter(1))
	loadError(t, q, "Q1", api.ErrQueueNone)
	for i, dir := range theQueues {
		id := "Q" + strconv.Itoa(10+i)
		lay(t, d, dir+"/"+id, right)
		loads(t, q, id, letter(1))
		fine(t, d.Append(dir+"/"+id, []byte("!")))
		loadError(t, q, id, api.ErrQueueForm)
		lies(t, q, id, dir)
		answers(t, "Mark", q.Mark(id, 0, 'D'), api.ErrQueueForm)
		answers(t, "Mark, no such one", q.Mark(id, 9, 'Z'), api.ErrQueueForm)
		fine(t, d.Rename(dir+"/"+id, "tmp/"+id))
	}
	for i, b := range []string{"", right[:len(right)-1], strings.Replace(right, "number", "Number", 1)} {
		id := "Q" + strconv.Itoa(20+i)
		lay(t, d, "hold/"+id, b)
		loadError(t, q, id, api.ErrQueueForm)
	}
}

func TestP4_4List(t *testing.T) {
	d, q := fresh(t)
	for n := 1; n <= 12; n++ {
		put(t, q, []string{"hold", "active"}[n%2], letter(n), "Q"+strconv.Itoa(n))
	}
	lay(t, d, "corrupt/odd", "x")
	fine(t, q.Move("Q3", "corrupt"))
	lists(t, q, "hold", "Q10", "Q12", "Q2", "Q4", "Q6", "Q8")
	lists(t, q, "active", "Q1", "Q11", "Q5", "Q7", "Q9")
	lists(t, q, "corrupt", "Q3", "odd")
	lists(t, q, "incoming")
	lists(t, q, "deferred")
	lists(t, q, "maildrop")
	for _, dir := range []string{"", "tmp", "bounce", "other", "HOLD", "hold/", "/hold"} {
		listError(t, q, dir, api.ErrQueueDir)
	}
}

func TestP4_5Move(t *testing.T) {
	b := bytesOf(t, letter(1))
	for _, from := range theQueues {
		for _, to := range append(slices.Clone(theQueues), "corrupt") {
			d, q := fresh(t)
			put(t, q, from, letter(1), "Q1")
			fine(t, q.Log("Q1", "a"))
			count := d.Count()
			fine(t, q.Move("Q1", to))
			holds(t, d, to+"/Q1", b, "bounce/Q1", textsOf(t, "a"), "tmp/next", "65;")
			want := count + 2
			if from == to {
				want = count
			}
			if d.Count() != want {
				t.Errorf("Move from %s to %s: %d changes", from, to, d.Count()-count)
			}
			lasts(t, d)
			if to == "corrupt" {
				lies(t, q, "Q1", "")
				answers(t, "Move of one that is corrupt", q.Move("Q1", "hold"), api.ErrQueueNone)
			} else {
				lies(t, q, "Q1", to)
			}
		}
	}
}

func TestP4_5MoveRefused(t *testing.T) {
	d, q := fresh(t)
	put(t, q, "hold", letter(1), "Q1")
	before := state(d)
	for _, to := range []string{"", "tmp", "bounce", "other", "Active", "active/"} {
		answers(t, "Move to "+to, q.Move("Q1", to), api.ErrQueueDir)
		answers(t, "Move of none to "+to, q.Move("Q9", to), api.ErrQueueDir)
	}
	for _, to := range append(slices.Clone(theQueues), "corrupt") {
		answers(t, "Move of none to "+to, q.Move("Q9", to), api.ErrQueueNone)
	}
	if state(d) != before {
		t.Error("the disk was changed:", state(d))
	}
}

func TestP4_5Mark(t *testing.T) {
	for _, dir := range theQueues {
		d, q := fresh(t)
		m := letter(1)
		put(t, q, dir, m, "Q1")
		put(t, q, dir, letter(2), "Q2")
		for _, mark := range []byte("DBXPPD") {
			for i := range m.Rcpts {
				fine(t, q.Mark("Q1", i, mark))
				m.Rcpts[i].Mark = mark
				loads(t, q, "Q1", m)
				loads(t, q, "Q2", letter(2))
				lasts(t, d)
			}
		}
		holds(t, d, dir+"/Q1", bytesOf(t, m), dir+"/Q2", bytesOf(t, letter(2)), "tmp/next", "65;")
	}
}

func TestP4_5MarkRefused(t *testing.T) {
	d, q := fresh(t)
	put(t, q, "hold", letter(1), "Q1")
	before := state(d)
	for _, i := range []int{-1, 3, 4, 200, math.MinInt, math.MaxInt} {
		answers(t, "Mark of "+strconv.Itoa(i), q.Mark("Q1", i, 'D'), api.ErrArg)
		answers(t, "Mark Z of "+strconv.Itoa(i), q.Mark("Q1", i, 'Z'), api.ErrArg)
		answers(t, "Mark of none", q.Mark("Q2", i, 'Z'), api.ErrQueueNone)
	}
	for c := range 256 {
		if !strings.Contains("PDBX", string(rune(c))) {
			for i := range 3 {
				answers(t, "Mark "+strconv.Itoa(c), q.Mark("Q1", i, byte(c)), api.ErrQueueMark)
			}
		}
	}
	if state(d) != before {
		t.Error("the disk was changed:", state(d))
	}
}

func TestP4_5Remove(t *testing.T) {
	for _, dir := range theQueues {
		d, q := fresh(t)
		put(t, q, dir, letter(1), "Q1")
		put(t, q, dir, letter(2), "Q2")
		fine(t, q.Log("Q1", "a"))
		fine(t, q.Remove("Q1"))
		holds(t, d, dir+"/Q2", bytesOf(t, letter(2)), "bounce/Q1", textsOf(t, "a"), "tmp/next", "65;")
		lasts(t, d)
		before := state(d)
		answers(t, "Remove again", q.Remove("Q1"), api.ErrQueueNone)
		answers(t, "Remove of none", q.Remove("Q9"), api.ErrQueueNone)
		loadError(t, q, "Q1", api.ErrQueueNone)
		lies(t, q, "Q1", "")
		if state(d) != before {
			t.Error("the disk was changed:", state(d))
		}
		fine(t, q.Move("Q2", "corrupt"))
		answers(t, "Remove of one that is corrupt", q.Remove("Q2"), api.ErrQueueNone)
	}
}

func TestP4_6Log(t *testing.T) {
	for _, dir := range theQueues {
		d, q := fresh(t)
		put(t, q, dir, letter(1), "Q1")
		logged(t, q, "Q1")
		all := ""
		var lines []string
		for _, line := range []string{"ok", "", "3:x,", "\x00\r\n\xff", strings.Repeat("a", 1000), "", "ok"} {
			fine(t, q.Log("Q1", line))
			all += textsOf(t, line)
			lines = append(lines, line)
			holds(t, d, dir+"/Q1", bytesOf(t, letter(1)), "bounce/Q1", all, "tmp/next", "65;")
			lasts(t, d)
			logged(t, q, "Q1", lines...)
		}
	}
}

func TestP4_6LogRefused(t *testing.T) {
	d, q := fresh(t)
	put(t, q, "hold", letter(1), "Q1")
	before := state(d)
	answers(t, "Log of 1001", q.Log("Q1", strings.Repeat("a", 1001)), api.ErrQueueLine)
	answers(t, "Log of far more", q.Log("Q1", strings.Repeat("a", api.MaxText+1)), api.ErrQueueLine)
	answers(t, "Log of none", q.Log("Q2", "a"), api.ErrQueueNone)
	answers(t, "Log of none, long", q.Log("Q2", strings.Repeat("a", 1001)), api.ErrQueueNone)
	if state(d) != before {
		t.Error("the disk was changed:", state(d))
	}
	fine(t, q.Log("Q1", "a"), q.Move("Q1", "corrupt"))
	answers(t, "Log of one that is corrupt", q.Log("Q1", "b"), api.ErrQueueNone)
	logged(t, q, "Q1", "a")
}

func TestP4_6MaxLog(t *testing.T) {
	d, q := fresh(t)
	put(t, q, "hold", letter(1), "Q1")
	line := strings.Repeat("a", 1000) // 1006 bytes as a text
	var lines []string
	for left := api.MaxLog; left >= 1006; left -= 1006 {
		fine(t, q.Log("Q1", line))
		lines = append(lines, line)
	}
	left := api.MaxLog % 1006
	answers(t, "Log of one that is too long", q.Log("Q1", line), api.ErrQueueLine)
	last := strings.Repeat("b", left-len("999:,"))
	if len(textsOf(t, last)) != left {
		t.Fatal("the test's last line has", len(last), "bytes, there is room for", left)
	}
	before := state(d)
	answers(t, "Log of one byte more", q.Log("Q1", last+"b"), api.ErrQueueLine)
	if state(d) != before {
		t.Error("the disk was changed")
	}
	fine(t, q.Log("Q1", last))
	lines = append(lines, last)
	logged(t, q, "Q1", lines...)
	if n, _ := d.Len("bounce/Q1"); n != api.MaxLog {
		t.Error("the log has", n)
	}
	answers(t, "Log of nothing", q.Log("Q1", ""), api.ErrQueueLine)
	q = opened(t, d, api.QueueFound{Messages: 1})
	logged(t, q, "Q1", lines...)
}

func TestP4_6Logged(t *testing.T) {
	d, q := fresh(t)
	logged(t, q, "Q1")
	lay(t, d, "bounce/Q1", textsOf(t, "a", "")+"2:x")
	logged(t, q, "Q1", "a", "")
	lay(t, d, "bounce/Q2", "x"+textsOf(t, "a"))
	logged(t, q, "Q2")
	lay(t, d, "bounce/Q3", "")
	logged(t, q, "Q3")
	lay(t, d, "bounce/Q4", textsOf(t, "a")+"01:b,"+textsOf(t, "c"))
	logged(t, q, "Q4", "a")
}

func TestP4_6Drop(t *testing.T) {
	d, q := fresh(t)
	put(t, q, "hold", letter(1), "Q1")
	put(t, q, "hold", letter(2), "Q2")
	before := state(d)
	answers(t, "Drop of no log", q.Drop("Q1"), api.ErrQueueNone)
	answers(t, "Drop of none", q.Drop("Q9"), api.ErrQueueNone)
	if state(d) != before {
		t.Error("the disk was changed:", state(d))
	}
	fine(t, q.Log("Q1", "a"), q.Log("Q2", "b"), q.Drop("Q1"))
	lasts(t, d)
	logged(t, q, "Q1")
	logged(t, q, "Q2", "b")
	fine(t, q.Log("Q1", "c"))
	logged(t, q, "Q1", "c")
	fine(t, q.Remove("Q1"), q.Drop("Q1")) // a log may be dropped without its message
	lay(t, d, "bounce/Q3", "")
	fine(t, q.Drop("Q3"))
	holds(t, d, "hold/Q2", bytesOf(t, letter(2)), "bounce/Q2", textsOf(t, "b"), "tmp/next", "65;")
	lasts(t, d)
}

// TestR3Shared: what is handed in and out is shared with nothing.
func TestR3Shared(t *testing.T) {
	_, q := fresh(t)
	m := letter(1)
	put(t, q, "hold", m, "Q1")
	if !sameMessage(m, letter(1)) {
		t.Error("the message that was handed in was changed:", m)
	}
	clear(m.Data)
	clear(m.Rcpts)
	loads(t, q, "Q1", letter(1))
	l, _ := q.Load("Q1")
	clear(l.Data)
	clear(l.Rcpts)
	loads(t, q, "Q1", letter(1))
	fine(t, q.Log("Q1", "a"))
	lines, _ := q.Logged("Q1")
	clear(lines)
	logged(t, q, "Q1", "a")
	names, _ := q.List("hold")
	clear(names)
	lists(t, q, "hold", "Q1")
}

// TestQueueReadsTheDisk: but for its ids a Queue knows what lies on the disk, and nothing else.
func TestQueueReadsTheDisk(t *testing.T) {
	d, q := fresh(t)
	put(t, q, "hold", letter(1), "Q1")
	fine(t, d.Rename("hold/Q1", "active/Q7"))
	lay(t, d, "bounce/Q7", textsOf(t, "a"))
	lies(t, q, "Q1", "")
	lies(t, q, "Q7", "active")
	loads(t, q, "Q7", letter(1))
	logged(t, q, "Q7", "a")
	fine(t, d.Unlink("tmp/next"))
	put(t, q, "hold", letter(2), "Q2")
	d.Crash(nothing())
	lies(t, q, "Q1", "")
	lies(t, q, "Q7", "active")
	put(t, q, "hold", letter(3), "Q3")
}

func TestExamples(t *testing.T) {
	d, q := fresh(t)
	m := letter(1)
	put(t, q, "incoming", m, "Q1")
	holds(t, d, "incoming/Q1", bytesOf(t, m), "tmp/next", "65;")

	fine(t, q.Move("Q1", "active"), q.Mark("Q1", 0, 'D'), q.Log("Q1", "ok"))
	d.Crash(nothing())
	q = opened(t, d, api.QueueFound{Back: 1, Messages: 1})
	m.Rcpts[0].Mark = 'D'
	lies(t, q, "Q1", "incoming")
	loads(t, q, "Q1", m)
	logged(t, q, "Q1", "ok")

	put(t, q, "incoming", letter(2), "Q65")

	putError(t, q, "corrupt", m, api.ErrQueueDir)
	m.Rcpts = nil
	putError(t, q, "incoming", m, api.ErrRecordForm)
	answers(t, "Move(Q9, hold)", q.Move("Q9", "hold"), api.ErrQueueNone)
	answers(t, "Mark(Q1, 0, Z)", q.Mark("Q1", 0, 'Z'), api.ErrQueueMark)
}
