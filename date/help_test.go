package date_test

import (
	"fmt"
	"strconv"
	"strings"
	"testing"

	"waybill/api"
	"waybill/date"
)

const day = 86400

// shown is a tick and its text.
type shown struct {
	tick int
	text string
}

// tells wants a tick to have this day of the week, date and time, and a text made of them.
func tells(t *testing.T, tick, week int, want [6]int) {
	t.Helper()
	if c, e := date.Civil(tick); c != want || e != api.OK {
		t.Errorf("Civil(%d): %v %v, not %v", tick, c, e, want)
	}
	if d, e := date.Day(tick); d != week || e != api.OK {
		t.Errorf("Day(%d): %d %v, not %d", tick, d, e, week)
	}
	shows(t, tick, modelText(week, want))
}

// shows wants a tick to have this text, which is read as the tick.
func shows(t *testing.T, tick int, want string) {
	t.Helper()
	if s, e := date.Show(tick); s != want || e != api.OK {
		t.Errorf("Show(%d): %q %v, not %q", tick, s, e, want)
	}
	reads(t, tick, want)
}

func noTick(t *testing.T, tick int) {
	t.Helper()
	if c, e := date.Civil(tick); c != [6]int{} || e != api.ErrDateForm {
		t.Errorf("Civil(%d): %v %v", tick, c, e)
	}
	if d, e := date.Day(tick); d != 0 || e != api.ErrDateForm {
		t.Errorf("Day(%d): %d %v", tick, d, e)
	}
	if s, e := date.Show(tick); s != "" || e != api.ErrDateForm {
		t.Errorf("Show(%d): %q %v", tick, s, e)
	}
}

func reads(t *testing.T, want int, l ...string) {
	t.Helper()
	for _, s := range l {
		if n, e := date.Parse(s); n != want || e != api.OK {
			t.Errorf("Parse(%s): %d %v, not %d", short(s), n, e, want)
		}
	}
}

func wrong(t *testing.T, l ...string) {
	t.Helper()
	for _, s := range l {
		if n, e := date.Parse(s); n != 0 || e != api.ErrDateForm {
			t.Errorf("Parse(%s): %d %v", short(s), n, e)
		}
	}
}

// same wants Parse to tell what the model does.
func same(t *testing.T, s string) {
	t.Helper()
	if want, is := modelParse(s); is {
		reads(t, want, s)
	} else {
		wrong(t, s)
	}
}

// eachCase calls do with a word in letters of either kind, mixed in all ways.
func eachCase(word string, do func(s string)) {
	for ways := range 1 << len(word) {
		b := []byte(strings.ToLower(word))
		for i := range b {
			if ways>>i&1 == 1 {
				b[i] -= 'a' - 'A'
			}
		}
		do(string(b))
	}
}

// short keeps what is told of a great text readable.
func short(s string) string {
	if len(s) > 120 {
		return fmt.Sprintf("%q..%q of %d bytes", s[:80], s[len(s)-20:], len(s))
	}
	return strconv.Quote(s)
}

// dice are numbers that look like chance, the same ones each time.
type dice uint64

func (d *dice) roll(n int) int {
	*d = *d*6364136223846793005 + 1442695040888963407
	return int(uint64(*d>>33) % uint64(n))
}

func (d *dice) one(l []string) string { return l[d.roll(len(l))] }
