package queuefs_test

import (
	"fmt"
	"slices"
	"strconv"
	"testing"

	"waybill/api"
	"waybill/queuefs"
	"waybill/simfs"
)

func TestP4_1Dirs(t *testing.T) {
	want := []string{"active", "bounce", "corrupt", "deferred", "hold", "incoming", "maildrop", "tmp"}
	got := queuefs.Dirs()
	if !slices.Equal(got, want) {
		t.Errorf("Dirs: %q", got)
	}
	clear(got)
	if got = queuefs.Dirs(); !slices.Equal(got, want) {
		t.Errorf("Dirs, behind a change of what was told: %q", got)
	}
}

func TestP4_2OpenOfNoDisk(t *testing.T) {
	openError(t, "no disk", nil, api.ErrArg)
	openError(t, "a disk without directories", &simfs.Disk{}, api.ErrArg)
	for i, dir := range queuefs.Dirs() {
		d := diskOf(t, 1000, append(slices.Delete(queuefs.Dirs(), i, i+1), "other")...)
		before := state(d)
		openError(t, "without "+dir, d, api.ErrArg)
		if state(d) != before {
			t.Error("without", dir, "the disk was changed:", state(d))
		}
		fine(t, d.Arm(1))
		answers(t, "the armed change", d.SyncDir("other"), api.ErrFsOff)
		openError(t, "without power and without "+dir, d, api.ErrArg)
	}
	d := disk(t)
	powerOff(t, d)
	openError(t, "without power", d, api.ErrFsOff)
}

func TestP4_2OpenOfMoreDirectories(t *testing.T) {
	d := diskOf(t, 1<<20, append(queuefs.Dirs(), "mail", "mtmp", "Z")...)
	lay(t, d, "mail/joe.Q1-0", "hi")
	lay(t, d, "mtmp/x", "yo")
	q := opened(t, d, api.QueueFound{})
	put(t, q, "hold", letter(1), "Q1")
	holds(t, d, "mail/joe.Q1-0", "hi", "mtmp/x", "yo", "hold/Q1", bytesOf(t, letter(1)), "tmp/next", "65;")
}

func TestP4_2OpenOfAnEmptyDisk(t *testing.T) {
	d, q := fresh(t)
	holds(t, d)
	lasts(t, d)
	if d.Count() != 5 {
		t.Error("so many changes:", d.Count())
	}
	for _, dir := range append(slices.Clone(theQueues), "corrupt") {
		lists(t, q, dir)
	}
	put(t, q, "incoming", letter(1), "Q1")
}

// TestP4_2Tmp: step 1.
func TestP4_2Tmp(t *testing.T) {
	d := disk(t)
	for _, name := range []string{"next.new", "next2", "nex", "Next", "Q1", "Q64", "odd", ".", "-"} {
		lay(t, d, "tmp/"+name, bytesOf(t, letter(1)))
	}
	lay(t, d, "tmp/next", "65;")
	fine(t, d.Create("tmp/torn")) // does not last
	q := opened(t, d, api.QueueFound{Dropped: 10})
	holds(t, d, "tmp/next", "65;")
	lasts(t, d)
	opened(t, d, api.QueueFound{})
	put(t, q, "hold", letter(1), "Q65")
}

// TestP4_2Next: step 2.
func TestP4_2Next(t *testing.T) {
	for next, first := range map[string]string{
		"1;":                "Q1",
		"2;":                "Q2",
		"64;":               "Q64",
		"65;":               "Q65",
		"1000000;":          "Q1000000",
		"9007199254740928;": "Q9007199254740928",
	} {
		d := disk(t)
		lay(t, d, "tmp/next", next)
		q := opened(t, d, api.QueueFound{})
		holds(t, d, "tmp/next", next)
		put(t, q, "hold", letter(1), first)
	}
	for _, next := range []string{"", ";", "0;", "01;", "65", "65;;", "65; ", "65;\n", " 65;", "-1;", "+1;", "6x;", "x", "65,", "2:65,", "9007199254740993;", "9999999999999999;", "10000000000000000;", "1;2;"} {
		d := disk(t)
		lay(t, d, "tmp/next", next)
		lay(t, d, "tmp/left", "")
		lay(t, d, "active/Q1", bytesOf(t, letter(1)))
		lay(t, d, "hold/odd", "odd")
		lay(t, d, "bounce/Q2", "odd")
		count := d.Count()
		openError(t, fmt.Sprintf("tmp/next %q", next), d, api.ErrQueueForm)
		holds(t, d, "tmp/next", next, "active/Q1", bytesOf(t, letter(1)), "hold/odd", "odd", "bounce/Q2", "odd")
		if d.Count() != count+1 {
			t.Errorf("tmp/next %q: %d changes", next, d.Count()-count)
		}
	}
}

// TestP4_2Names: step 3, files that are not called as ids.
func TestP4_2Names(t *testing.T) {
	right := bytesOf(t, letter(1))
	for _, dir := range theQueues {
		for _, name := range []string{"odd", "Q", "Q0", "Q00", "Q01", "q1", "QQ1", "1", "1Q", "Q1.", "Q1-", "Q-1", "Q.1", "Q1.5", "Q1_0", "Q1e3", "Q1x", "Qx1", "Q0x10", "_Q1", "next", "Q9007199254740993", "Q9999999999999999", "Q10000000000000000", "Q18446744073709551617", "Q90071992547409920"} {
			d := disk(t)
			lay(t, d, dir+"/"+name, right)
			opened(t, d, api.QueueFound{Corrupt: 1})
			holds(t, d, "corrupt/"+name, right)
			lasts(t, d)
		}
	}
}

// stays is where Open leaves a message.
func stays(dir string) string {
	if dir == "active" {
		return "incoming"
	}
	return dir
}

func back(dir string) api.QueueFound {
	if dir == "active" {
		return api.QueueFound{Back: 1, Messages: 1}
	}
	return api.QueueFound{Messages: 1}
}

// TestP4_2Messages: step 3, messages, which stay, but for those of active.
func TestP4_2Messages(t *testing.T) {
	for _, dir := range theQueues {
		for _, name := range []string{"Q1", "Q9", "Q10", "Q123456789", "Q9007199254740991", "Q9007199254740992"} {
			d := disk(t)
			lay(t, d, dir+"/"+name, bytesOf(t, letter(1)))
			q := opened(t, d, back(dir))
			holds(t, d, stays(dir)+"/"+name, bytesOf(t, letter(1)))
			lasts(t, d)
			loads(t, q, name, letter(1))
		}
	}
}

// TestP4_2Bytes: step 3, bytes that do not decode.
func TestP4_2Bytes(t *testing.T) {
	right := bytesOf(t, letter(1))
	for _, dir := range theQueues {
		for _, b := range []string{"", "W1;", right[:len(right)-1], right + "\n", right + right, "x" + right, right[:len(right)-2] + "x\n", right[:50] + "!" + right[51:]} {
			d := disk(t)
			lay(t, d, dir+"/Q7", b)
			lay(t, d, dir+"/Q8", right)
			want := back(dir)
			want.Corrupt = 1
			q := opened(t, d, want)
			holds(t, d, "corrupt/Q7", b, stays(dir)+"/Q8", right)
			lasts(t, d)
			lies(t, q, "Q7", "")
			lists(t, q, "corrupt", "Q7")
		}
	}
}

// TestP4_2Order: queues, and files, are gone through by rising names: what comes later takes the place of what came before.
func TestP4_2Order(t *testing.T) {
	d := disk(t)
	for _, dir := range []string{"maildrop", "hold", "active", "incoming", "deferred"} {
		lay(t, d, dir+"/odd", dir)
	}
	lay(t, d, "corrupt/odd", "of old")
	opened(t, d, api.QueueFound{Corrupt: 5})
	holds(t, d, "corrupt/odd", "maildrop")

	d = disk(t)
	lay(t, d, "active/Q5", bytesOf(t, letter(1)))
	lay(t, d, "incoming/Q5", bytesOf(t, letter(2)))
	lay(t, d, "active/Q6", bytesOf(t, letter(1)))
	lay(t, d, "incoming/Q6", "torn")
	q := opened(t, d, api.QueueFound{Back: 2, Messages: 2})
	loads(t, q, "Q5", letter(1))
	loads(t, q, "Q6", letter(1))
}

func TestP4_2Counts(t *testing.T) {
	d := disk(t)
	n := 0
	for i, dir := range theQueues {
		for range i + 2 {
			n++
			lay(t, d, dir+"/Q"+strconv.Itoa(n), bytesOf(t, letter(n)))
		}
	}
	lay(t, d, "corrupt/Q100", bytesOf(t, letter(100)))
	opened(t, d, api.QueueFound{Back: 2, Messages: n})
	opened(t, d, api.QueueFound{Messages: n})
}

// TestP4_2LogsWithoutMessage: step 4, those that are unlinked.
func TestP4_2LogsWithoutMessage(t *testing.T) {
	d := disk(t)
	for _, name := range []string{"Q1", "Q2", "Q3", "Q4", "odd", "Q01", "Q9007199254740993"} {
		lay(t, d, "bounce/"+name, textsOf(t, "a"))
	}
	right := bytesOf(t, letter(1))
	lay(t, d, "corrupt/Q2", right)
	lay(t, d, "hold/Q3", "torn") // comes into corrupt
	lay(t, d, "hold/odd", right) // comes into corrupt
	lay(t, d, "hold/Q4", right)
	q := opened(t, d, api.QueueFound{Dropped: 6, Corrupt: 2, Messages: 1})
	holds(t, d, "bounce/Q4", textsOf(t, "a"), "corrupt/Q2", right, "corrupt/Q3", "torn", "corrupt/odd", right, "hold/Q4", right)
	lasts(t, d)
	logged(t, q, "Q4", "a")
}

// TestP4_2Logs: step 4, those of messages: whole ones stay, torn ones are cut.
func TestP4_2Logs(t *testing.T) {
	whole := textsOf(t, "one", "", "1:x,")
	for _, x := range []struct{ log, left string }{
		{"", ""},
		{whole, whole},
		{whole + "3:two", whole},
		{whole + "3:tw", whole},
		{whole + "3:", whole},
		{whole + "3", whole},
		{whole + "x", whole},
		{whole + "3:twox", whole},
		{whole + "3:two,3:x", whole + "3:two,"},
		{whole + "03:two," + whole, whole},
		{whole + "65;", whole},
		{whole + "9999999:" + whole, whole},
		{"3", ""},
		{"x" + whole, ""},
		{"2:tw", ""},
		{"0:,0:,0", "0:,0:,"},
	} {
		for _, dir := range theQueues {
			d := disk(t)
			lay(t, d, dir+"/Q1", bytesOf(t, letter(1)))
			lay(t, d, "bounce/Q1", x.log)
			q := opened(t, d, back(dir))
			holds(t, d, stays(dir)+"/Q1", bytesOf(t, letter(1)), "bounce/Q1", x.left)
			lasts(t, d)
			if l, e := q.Logged("Q1"); textsOf(t, l...) != x.left || e != api.OK {
				t.Errorf("%q: Logged: %q %v", x.log, l, e)
			}
		}
	}
}

// TestP4_2LogWithoutRoom: to cut a log takes room for what is left of it, and for one more file.
func TestP4_2LogWithoutRoom(t *testing.T) {
	b, log := bytesOf(t, letter(1)), textsOf(t, "0123456789")
	d := diskOf(t, len(b)+2*len(log), queuefs.Dirs()...)
	lay(t, d, "hold/Q1", b)
	lay(t, d, "bounce/Q1", log+"x")
	openError(t, "no room", d, api.ErrFsFull)
	holds(t, d, "hold/Q1", b, "bounce/Q1", log+"x", "tmp/Q1", "")
	fine(t, d.Rename("hold/Q1", "active/Q1"), d.Unlink("tmp/Q1"))
	for i := range api.MaxFsFiles - 2 {
		fine(t, d.Create("corrupt/"+strconv.Itoa(i)))
	}
	openError(t, "no file", d, api.ErrFsMany)
	fine(t, d.Unlink("corrupt/7"))
	openError(t, "no room", d, api.ErrFsFull)

	d = diskOf(t, len(b)+2*len(log)+1, queuefs.Dirs()...)
	lay(t, d, "hold/Q1", b)
	lay(t, d, "bounce/Q1", log+"x")
	opened(t, d, api.QueueFound{Messages: 1})
	holds(t, d, "hold/Q1", b, "bounce/Q1", log)
}

// TestP4_2Synced: step 5: what was put right lasts, and so does what waited there.
func TestP4_2Synced(t *testing.T) {
	b := bytesOf(t, letter(1))
	d := disk(t)
	lay(t, d, "active/Q1", b)
	lay(t, d, "incoming/Q2", "torn")
	lay(t, d, "tmp/left", "")
	lay(t, d, "bounce/Q1", "3:one,2")
	lay(t, d, "bounce/Q9", "")
	for _, dir := range []string{"active", "bounce", "corrupt", "incoming", "tmp"} {
		fine(t, d.Create(dir+"/odd"))
	}
	for _, dir := range []string{"deferred", "hold", "maildrop"} {
		fine(t, d.Create(dir+"/Q5"), d.Append(dir+"/Q5", []byte(b)), d.Sync(dir+"/Q5"))
	}
	opened(t, d, api.QueueFound{Dropped: 4, Corrupt: 3, Back: 1, Messages: 4})
	if c, _ := d.Wait(); len(c) != 3 {
		t.Error("there wait", c)
	}
	d.Crash(nothing())
	holds(t, d, "incoming/Q1", b, "bounce/Q1", "3:one,", "corrupt/Q2", "torn", "corrupt/odd", "")
}

// TestP4_2Ids: step 6: ids begin behind those that are there; how far they may go is written down when the first is taken.
func TestP4_2Ids(t *testing.T) {
	b := bytesOf(t, letter(1))
	for _, x := range []struct {
		next     string // empty: there is none
		path     string
		id, then string
	}{
		{"", "hold/Q1", "Q2", "66;"},
		{"", "hold/Q64", "Q65", "129;"},
		{"", "active/Q100", "Q101", "165;"},
		{"", "deferred/Q7", "Q8", "72;"},
		{"", "incoming/Q7", "Q8", "72;"},
		{"", "maildrop/Q7", "Q8", "72;"},
		{"", "corrupt/Q7", "Q8", "72;"},
		{"", "corrupt/Q07", "Q1", "65;"},
		{"", "corrupt/odd", "Q1", "65;"},
		{"", "corrupt/Q9007199254740993", "Q1", "65;"},
		{"65;", "hold/Q64", "Q65", "129;"},
		{"65;", "hold/Q65", "Q66", "130;"},
		{"65;", "hold/Q66", "Q67", "131;"},
		{"65;", "corrupt/Q64", "Q65", "129;"},
		{"65;", "corrupt/Q65", "Q66", "130;"},
		{"65;", "corrupt/Q1000", "Q1001", "1065;"},
		{"65;", "hold/Q1", "Q65", "129;"},
		{"", "hold/Q9007199254740927", "Q9007199254740928", "9007199254740992;"},
	} {
		d := disk(t)
		if x.next != "" {
			lay(t, d, "tmp/next", x.next)
		}
		lay(t, d, x.path, b)
		for range 2 {
			count := d.Count()
			if _, _, e := queuefs.Open(d); e != api.OK {
				t.Fatal("Open:", e)
			}
			if _, is := d.Len("tmp/next"); is != (x.next != "") || d.Count() > count+6 {
				t.Errorf("%v: %s", x, state(d))
			}
		}
		q, _, _ := queuefs.Open(d)
		put(t, q, "hold", letter(2), x.id)
		if next, e := d.Read("tmp/next"); string(next) != x.then || e != api.OK {
			t.Errorf("%v: tmp/next is %q", x, next)
		}
	}
}

// TestP4_2GreatestId: it is the greatest number that counts, not the last name.
func TestP4_2GreatestId(t *testing.T) {
	d := disk(t)
	for _, path := range []string{"hold/Q9", "hold/Q80", "active/Q100", "deferred/Q99", "maildrop/Q8", "corrupt/Q95"} {
		lay(t, d, path, bytesOf(t, letter(1)))
	}
	q := opened(t, d, api.QueueFound{Back: 1, Messages: 5})
	put(t, q, "hold", letter(2), "Q101")
	put(t, q, "hold", letter(3), "Q102")

	d = disk(t)
	lay(t, d, "hold/Q9", bytesOf(t, letter(1)))
	lay(t, d, "active/Q300", "torn")
	lay(t, d, "hold/Q10", bytesOf(t, letter(1)))
	q = opened(t, d, api.QueueFound{Corrupt: 1, Messages: 2})
	put(t, q, "hold", letter(2), "Q301")
}

// TestP4_2NoMoreIds: Open finds no fault with the last id; no other one is behind it.
func TestP4_2NoMoreIds(t *testing.T) {
	for _, path := range []string{"hold/Q9007199254740992", "corrupt/Q9007199254740992"} {
		d := disk(t)
		lay(t, d, path, bytesOf(t, letter(1)))
		q, _, e := queuefs.Open(d)
		if e != api.OK {
			t.Fatal(path, e)
		}
		before := state(d)
		putError(t, q, "hold", letter(2), api.ErrQueueIds)
		if state(d) != before {
			t.Error(path, "a Put without ids changes the disk:", state(d))
		}
	}
	for _, name := range []string{"Q9007199254740991", "Q9007199254740928"} {
		d := disk(t)
		lay(t, d, "hold/"+name, bytesOf(t, letter(1)))
		q := opened(t, d, api.QueueFound{Messages: 1})
		holds(t, d, "hold/"+name, bytesOf(t, letter(1)))
		for range 3 {
			putError(t, q, "hold", letter(2), api.ErrQueueIds)
			holds(t, d, "hold/"+name, bytesOf(t, letter(1)), "tmp/next.new", "")
		}
	}
}
