package header_test

import (
	"slices"
	"strings"
	"testing"

	"waybill/api"
	"waybill/header"
)

// agree wants Split to tell of a content what the model does, and what follows of it.
func agree(t *testing.T, data string) {
	t.Helper()
	given := []byte(data)
	l, n, e := header.Split(given)
	want, body, code := modelSplit(data)
	if !slices.Equal(l, want) || n != body || e != code || string(given) != data {
		t.Errorf("Split(%s): %+v %d %v, not %+v %d %v", short(data), l, n, e, want, body, code)
		return
	}
	if e == api.OK {
		follows(t, data, l, n)
	}
}

// TestP11_6Short: all contents of a few pieces.
func TestP11_6Short(t *testing.T) {
	pieces := []string{"a", ":", " ", "\t", "\r", "\n", "\r\n", "\x80"}
	var lay func(data string, n int)
	lay = func(data string, n int) {
		agree(t, data)
		if n > 0 {
			for _, piece := range pieces {
				lay(data+piece, n-1)
			}
		}
	}
	lay("", 6)
	lay("a:b", 5)
	lay("a:\r\n", 5)
}

var (
	nameSorts = []string{"A", "a", "To", "tO", "Received", "RECEIVED", "X-y!", "9", "~", "\"", strings.Repeat("n", 70), strings.Repeat("n", 80)}
	oddNames  = []string{"", " ", "a b", "\x80", "a\x00", "\r", "\n", "\x7f", "\t", "a\r\nb"}
	bodySorts = []string{"", "x", " ", "\t", "y z", ":", "b:c", "\r", "\n", "\n ", "\x80", "\x00", "\r\n ", "\r\n\t", "\r\n \r\n ", xs(70)}
	lineSorts = []string{"\r\n", "\r\n", "\r\n", "\r\n", "\n", "\r", "\r\r\n", "\r\n\r\n", "", "\r\n\n"}
	restSorts = []string{"", "\r\n", "no field\r\n", "\r\nx: y\r\n", "x y\r\n", ":", "\n", "\r", " ", "a", "\r\n\r\n"}
	wordSorts = []string{"a", "bc", "\x80", "\u00e9", "x:", "<a@b>", xs(30), xs(60), xs(75), xs(76), xs(77), xs(78), xs(79), xs(100)}
	gapSorts  = []string{" ", " ", " ", "\t", "  ", " \t ", "\t\t"}
)

// content is a content by chance.
func (d *dice) content() string {
	s := ""
	if d.roll(20) == 0 {
		s = d.one([]string{" ", "\t", "\r\n", "\n", ":", " a:b\r\n"})
	}
	for range d.roll(8) {
		if d.roll(12) == 0 {
			s += d.one(oddNames)
		} else {
			s += d.one(nameSorts)
		}
		if d.roll(20) > 0 {
			s += ":"
		}
		s += d.row(4, bodySorts)
		if d.roll(8) == 0 {
			s += d.one(lineSorts)
		} else {
			s += "\r\n"
		}
	}
	if d.roll(2) == 0 {
		s += d.row(3, restSorts)
	}
	return s
}

// text is words by chance, and what lies between them; wrong is how often there is something that may not be.
func (d *dice) text(wrong int) string {
	s := d.one([]string{"", "", " ", "\t "})
	for range d.roll(12) {
		s += d.one(wordSorts)
		if wrong > 0 && d.roll(wrong) == 0 {
			s += d.one([]string{"\r", "\n", "\r\n", "\x00", "\x7f", "\x1f", xs(950), xs(998)})
		}
		if d.roll(30) > 0 {
			s += d.one(gapSorts)
		}
	}
	return s
}

func TestP11_6Chance(t *testing.T) {
	d := dice(116)
	found := map[int]int{}
	for range 100000 {
		data := d.content()
		agree(t, data)
		l, _, _ := header.Split([]byte(data))
		found[len(l)]++
	}
	if len(found) < 6 || found[3] < 1000 {
		t.Error(found)
	}
	for range 20000 {
		b := make([]byte, d.roll(30))
		for i := range b {
			b[i] = "ab::: \t\r\n\r\n\x80"[d.roll(12)]
		}
		agree(t, string(b))
	}
	for range 40 {
		agree(t, d.content()+"\r\n"+strings.Repeat("b:c\r\n", 990+d.roll(20))+"d:"+xs(60300+d.roll(300))+"\r\n")
		agree(t, strings.Repeat("b:\r\n", 990+d.roll(20))+"d:"+xs(61400+d.roll(300))+d.one(lineSorts)+d.content())
	}
}

func TestP11_3Chance(t *testing.T) {
	d := dice(113)
	for range 20000 {
		body := d.row(12, append(gapSorts, "\r\n", "\r\n", "\r", "\n", "a", "b", "\x80", "\r\n "))
		unfolds(t, body, modelUnfold(body))
		text, column := d.text(10), d.roll(100)-10
		folds(t, text, column, modelFold(text, column))
		folds(t, text, 0, modelFold(text, 0))
		folds(t, body, column, modelFold(body, column))
	}
}

// TestP11_4Chance: texts that may be folded and those that may not, with names of each kind.
func TestP11_4Chance(t *testing.T) {
	d := dice(114)
	codes := map[api.Errno]int{}
	for range 30000 {
		name, body := d.one(nameSorts), d.text(30)
		if d.roll(10) == 0 {
			name = d.one(append(oddNames, strings.Repeat("n", 980+d.roll(30))))
		}
		want, code := modelWrite(name, body)
		codes[code]++
		if b, e := header.Write(name, body); string(b) != want || e != code {
			t.Errorf("Write(%s, %s): %s %v, not %s %v", short(name), short(body), short(string(b)), e, short(want), code)
		}
	}
	if len(codes) != 3 || codes[api.OK] < 10000 || codes[api.ErrHeaderLong] < 100 {
		t.Error(codes)
	}
}

// TestP11_7Chance: what was added is the first field, and all else is as it was.
func TestP11_7Chance(t *testing.T) {
	d := dice(117)
	added := 0
	for range 30000 {
		data, name, text := d.content(), d.one(nameSorts), d.text(0)
		b, e := header.Add([]byte(data), name, text)
		if e != api.OK {
			t.Errorf("Add(%s, %s, %s): %v", short(data), short(name), short(text), e)
			continue
		}
		if data != "" && isOneOf(data[0], " \t") {
			continue
		}
		old, body, _ := header.Split([]byte(data))
		l, n, e := header.Split(b)
		if e != api.OK || len(l) != len(old)+1 {
			t.Errorf("Split(%s): %d fields, %v", short(string(b)), len(l), e)
			continue
		}
		added++
		grown := len(b) - len(data)
		if l[0].Name != name || l[0].From != 0 || l[0].To != grown || header.Unfold(l[0].Body) != strings.Join(modelWords(text), " ") {
			t.Errorf("Add(%s, %s, %s): %+v", short(data), short(name), short(text), l[0])
		}
		for i, f := range old {
			if l[i+1] != field(f.Name, f.Body, f.From+grown, f.To+grown) {
				t.Errorf("Add(%s, %s, %s): %+v, not %+v", short(data), short(name), short(text), l[i+1], f)
			}
		}
		if string(b[n:]) != data[body:] {
			t.Errorf("Add(%s, %s, %s): its body is %s", short(data), short(name), short(text), short(string(b[n:])))
		}
		if f, is := header.Find(l, strings.ToUpper(name)); !is || f != l[0] {
			t.Errorf("Find: %+v %v", f, is)
		}
	}
	if added < 20000 {
		t.Error(added)
	}
}

// TestP11_7Limits: a header can still be split if it is just as great as may be with the new field.
func TestP11_7Limits(t *testing.T) {
	const size = len("A: x\r\n")
	for more := range 3 {
		great := "b:" + xs(65536-size-4+more-1) + "\r\n"
		many := strings.Repeat("b:c\r\n", 998+more)
		for i, data := range []string{great, many} {
			b, e := header.Add([]byte(data), "A", "x")
			if e != api.OK {
				t.Fatal(e)
			}
			l, n, e := header.Split(b)
			if more == 2 {
				if want := []api.Errno{api.ErrHeaderLong, api.ErrHeaderMany}[i]; e != want || len(l) != 0 || n != 0 {
					t.Errorf("%d fields, %d %v, not %v", len(l), n, e, want)
				}
			} else if e != api.OK || l[0] != field("A", " x", 0, size) || n != len(b) {
				t.Errorf("%d fields, %d %v", len(l), n, e)
			}
		}
	}
}
