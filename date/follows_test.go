package date_test

import (
	"slices"
	"testing"

	"waybill/api"
	"waybill/date"
)

// later wants of two ticks the later one to have the later date.
func later(t *testing.T, a, b int) {
	t.Helper()
	first, _ := date.Civil(a)
	second, _ := date.Civil(b)
	if order := slices.Compare(first[:], second[:]); order < 0 != (a < b) || order > 0 != (a > b) {
		t.Errorf("%d is %v, %d is %v", a, first, b, second)
	}
}

// again wants a tick to be read as it was shown, and days of the week to come again.
func again(t *testing.T, tick int) {
	t.Helper()
	s, e := date.Show(tick)
	if e != api.OK {
		t.Errorf("Show(%d): %v", tick, e)
	}
	reads(t, tick, s)
	week, e := date.Day(tick)
	if week < 0 || week > 6 || e != api.OK {
		t.Errorf("Day(%d): %d %v", tick, week, e)
	}
	for days := 1; days <= 7; days++ {
		next := tick + days*day
		if next > api.MaxDateTick {
			noTick(t, next)
			continue
		}
		if other, e := date.Day(next); other != (week+days)%7 || e != api.OK {
			t.Errorf("Day(%d): %d %v, %d days behind %d", next, other, e, days, week)
		}
	}
}

func TestP13_3Edges(t *testing.T) {
	for _, about := range []int{0, 60, 3600, day, 31 * day, 365 * day, 951782400, 951868800, 4107542400, api.MaxDateTick - 7*day, api.MaxDateTick - day, api.MaxDateTick} {
		for n := about - 70; n <= about+70; n++ {
			if n < 0 || n > api.MaxDateTick {
				noTick(t, n)
				continue
			}
			again(t, n)
			if n < api.MaxDateTick {
				later(t, n, n+1)
			}
		}
	}
	later(t, 0, api.MaxDateTick)
}

func TestP13_3Chance(t *testing.T) {
	d := dice(133)
	tick := func() int { return (d.roll(1<<30)<<30 + d.roll(1<<30)) % (api.MaxDateTick + 1) }
	for range 30000 {
		n := tick()
		again(t, n)
		later(t, n, tick())
		later(t, n, n)
		later(t, n, min(n+d.roll(2*day), api.MaxDateTick))
	}
}
