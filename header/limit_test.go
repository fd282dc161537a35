package header_test

import (
	"fmt"
	"slices"
	"strings"
	"testing"

	"waybill/api"
	"waybill/header"
)

// backs are what may stand behind a header of fields that end with a line's end.
var backs = []string{"", "\r\n", "\r\n\r\n", "\r\na:b\r\n", "x\r\n", "\r", "no field", ":"}

// TestP11_2Long: a header of just as many bytes as it may have, and of one more, the body not counted.
func TestP11_2Long(t *testing.T) {
	great := strings.Repeat("x: y\r\n", 100000)
	for _, size := range []int{65535, 65536, 65537, 65538, 70000, 1 << 20} {
		one := "a:" + xs(size-4) + "\r\n"
		open := "a:" + xs(size-2)
		on := "a:" + strings.Repeat("\r\n ", (size-4)/3) + xs((size-4)%3) + "\r\n"
		rest := size - 5*990
		several := strings.Repeat("b:c\r\n", 990) + "d:" + xs(rest-4) + "\r\n"
		cr := "a:" + strings.Repeat("\r", size-3) + "\n"
		for _, data := range []string{one, open, on, several, cr, "a:" + strings.Repeat("\r", size-2)} {
			if len(data) != size {
				t.Fatal(len(data), size)
			}
			if size > 65536 {
				noSplit(t, api.ErrHeaderLong, data)
				continue
			}
			if l, n, e := header.Split([]byte(data)); len(l) == 0 || n != size || e != api.OK {
				t.Errorf("Split(%s): %d fields, %d %v", short(data), len(l), n, e)
			} else {
				follows(t, data, l, n)
			}
		}
		for _, back := range append(slices.Clone(backs), "\r\n"+great, "no field\r\n"+great) {
			for _, data := range []string{one + back, on + back, several + back} {
				if size > 65536 {
					noSplit(t, api.ErrHeaderLong, data)
					continue
				}
				l, n, e := header.Split([]byte(data))
				want := size
				if strings.HasPrefix(back, "\r\n") {
					want += 2
				}
				if len(l) == 0 || l[len(l)-1].To != size || n != want || e != api.OK {
					t.Errorf("Split(%s): %d fields, %d %v, not %d", short(data), len(l), n, e, want)
				}
			}
		}
	}
}

// TestP11_2LongBody: what stands behind the header has no limit.
func TestP11_2LongBody(t *testing.T) {
	for _, body := range []string{xs(1 << 20), " " + xs(1<<20), ":" + strings.Repeat("a:b\r\n", 200000)} {
		noFields(t, body, 0)
		noFields(t, "\r\n"+body, 2)
		splits(t, "a:b\r\n\r\n"+body, 7, field("a", "b", 0, 5))
	}
	splits(t, "a:b\r\n"+xs(1<<20), 5, field("a", "b", 0, 5))
}

// TestP11_2Many: just as many fields as may be, and one more.
func TestP11_2Many(t *testing.T) {
	for _, n := range []int{999, 1000, 1001, 1002, 5000} {
		for _, line := range []string{"a:b\r\n", "a:\r\n", "a:\r\n \r\n", "ab:\r\n\t\r\n \r\n"} {
			data := strings.Repeat(line, n)
			for _, back := range append(slices.Clone(backs), "a", "\r\n"+data) {
				if n > 1000 {
					noSplit(t, api.ErrHeaderMany, data+back)
					continue
				}
				l, at, e := header.Split([]byte(data + back))
				if len(l) != n || e != api.OK {
					t.Errorf("Split of %d fields: %d, %v", n, len(l), e)
					continue
				}
				follows(t, data+back, l, at)
			}
		}
	}
	data := strings.Repeat("a:b\r\n", 999)
	for _, last := range []string{"c:", "c:d", "c:\r\n ", "c:\r\n\te\r\n"} {
		if l, n, e := header.Split([]byte(data + last)); len(l) != 1000 || n != len(data+last) || e != api.OK {
			t.Errorf("Split: %d %d %v", len(l), n, e)
		}
		noSplit(t, api.ErrHeaderMany, data+"a:b\r\n"+last)
	}
}

// TestP11_2Both: too long is told ahead of too many.
func TestP11_2Both(t *testing.T) {
	for _, n := range []int{1000, 1001, 2000} {
		for _, size := range []int{65536, 65537, 80000} {
			for _, front := range []bool{true, false} {
				many := strings.Repeat("a:b\r\n", n-1)
				one := "c:" + xs(size-len(many)-4) + "\r\n"
				data := many + one
				if front {
					data = one + many
				}
				name := fmt.Sprint(n, size, front)
				t.Run(name, func(t *testing.T) {
					switch {
					case size > 65536:
						noSplit(t, api.ErrHeaderLong, data)
						noSplit(t, api.ErrHeaderLong, data+"\r\nx")
					case n > 1000:
						noSplit(t, api.ErrHeaderMany, data)
						noSplit(t, api.ErrHeaderMany, data+"\r\nx")
					default:
						if l, at, e := header.Split([]byte(data)); len(l) != n || at != size || e != api.OK {
							t.Error(len(l), at, e)
						}
					}
				})
			}
		}
	}
	noSplit(t, api.ErrHeaderLong, strings.Repeat("a:b\r\n", 200000))
	noSplit(t, api.ErrHeaderMany, strings.Repeat("a:b\r\n", 13107))
	noSplit(t, api.ErrHeaderLong, strings.Repeat("a:b\r\n", 13108))
}
