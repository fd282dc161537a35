package path_test

import (
	"fmt"
	"slices"
	"strings"
	"testing"

	"waybill/api"
)

func TestP9_4Params(t *testing.T) {
	params(t, "")
	params(t, " A", api.Param{Name: "A"})
	params(t, " a", api.Param{Name: "A"})
	params(t, " SIZE=10", api.Param{Name: "SIZE", Value: "10", Has: true})
	params(t, " a=b", api.Param{Name: "A", Value: "b", Has: true}) // the value as it stands
	params(t, " aB-9=aB-9", api.Param{Name: "AB-9", Value: "aB-9", Has: true})
	params(t, " Body=8BitMime", api.Param{Name: "BODY", Value: "8BitMime", Has: true})
	params(t, " 8-", api.Param{Name: "8-"})
	params(t, " 8--=-", api.Param{Name: "8--", Value: "-", Has: true})
	params(t, " A B=1 c", api.Param{Name: "A"}, api.Param{Name: "B", Value: "1", Has: true}, api.Param{Name: "C"})
	params(t, " A=1 B C=2", api.Param{Name: "A", Value: "1", Has: true}, api.Param{Name: "B"}, api.Param{Name: "C", Value: "2", Has: true})
	params(t, " A A a=1 A=1", api.Param{Name: "A"}, api.Param{Name: "A"}, api.Param{Name: "A", Value: "1", Has: true}, api.Param{Name: "A", Value: "1", Has: true}) // in their order, also twice
	long := strings.Repeat("xY", 1<<15)
	params(t, " "+long+"="+long, api.Param{Name: strings.ToUpper(long), Value: long, Has: true})
	noParams(t, api.ErrPathForm, " ", "  ", "A", "SIZE=1", "  A", " A ", " A  B", " A  ", "A B", " A= B", " A =1", " A= 1", " A=", " A= ", " =", " =1", " = ", " -", " -A", " -=1", " A=1=2", " A==", " A==1", " A=1=", " A=B=C D", "\tA", " A\tB", " A\n", "\nA", " A,B", " A;B", " A.B", " A_B", " \"A\"=1", " A B=", " A=1 B=", " B= A", " A -B", " A\x00", " A=\x00", " A=\x7f", " A=\xc3\xa4", " \xc3\xa4", "\u00a0A", " A\u00a0B", " \u017f", " \u212a=1", "=", "-", "\x00", ">", "> A")
}

func TestP9_4EachByte(t *testing.T) {
	eachByte(func(c byte, s string) {
		up := s
		if isOneOf(c, small) {
			up = strings.ToUpper(s)
		}
		for _, value := range []string{"", "=v"} {
			has := api.Param{Value: strings.TrimPrefix(value, "="), Has: value != ""}
			for _, rest := range []string{"", "A", "-"} {
				has.Name = up + rest
				if isOneOf(c, ofLabel) {
					params(t, " "+s+rest+value, has)
				} else if c != ' ' || rest != "A" {
					noParams(t, api.ErrPathForm, " "+s+rest+value)
				}
			}
			for _, name := range [][2]string{{"A", ""}, {"A", "A"}, {"A-", "-A"}} {
				has.Name = name[0] + up + name[1]
				switch {
				case isOneOf(c, ofLabel+"-"):
					params(t, " "+name[0]+s+name[1]+value, has)
				case c == ' ' && name[1] == "A":
					params(t, " A A"+value, api.Param{Name: "A"}, api.Param{Name: "A", Value: has.Value, Has: has.Has})
				case c == '=' && value == "" && name[1] != "":
					params(t, " "+name[0]+"="+name[1], api.Param{Name: name[0], Value: name[1], Has: true})
				default:
					noParams(t, api.ErrPathForm, " "+name[0]+s+name[1]+value)
				}
			}
		}
		noParams(t, api.ErrPathForm, s)
		if c != ' ' {
			noParams(t, api.ErrPathForm, s+"A", s+"A=1")
		}
	})
}

func TestP9_4EachByteOfValue(t *testing.T) {
	eachByte(func(c byte, s string) {
		for _, x := range [][2]string{{"", ""}, {"v", ""}, {"", "v"}, {"v", "v"}} {
			text := " a=" + x[0] + s + x[1]
			switch {
			case c > 32 && c < 127 && c != '=':
				params(t, text, api.Param{Name: "A", Value: x[0] + s + x[1], Has: true})
				params(t, text+" b", api.Param{Name: "A", Value: x[0] + s + x[1], Has: true}, api.Param{Name: "B"})
			case c == ' ' && x[0] == "v" && x[1] == "v":
				params(t, text, api.Param{Name: "A", Value: "v", Has: true}, api.Param{Name: "V"})
			default:
				noParams(t, api.ErrPathForm, text)
			}
		}
	})
}

// TestP9_4Many: a wrong one is told ahead of too many, wherever it stands.
func TestP9_4Many(t *testing.T) {
	var text string
	var want []api.Param
	for n := range 16 {
		text += fmt.Sprintf(" a%d=%d", n, n)
		want = append(want, api.Param{Name: fmt.Sprintf("A%d", n), Value: fmt.Sprint(n), Has: true})
		params(t, text, want...)
	}
	params(t, strings.Repeat(" A", 15)+" B", append(slices.Repeat([]api.Param{{Name: "A"}}, 15), api.Param{Name: "B"})...)
	for _, more := range []string{" A", " A=1", text, strings.Repeat(" A", 1<<16)} {
		noParams(t, api.ErrPathMany, text+more)
		noParams(t, api.ErrPathForm, text+more+" ", text+more+"=", " "+text+more, "A"+text+more, text+" "+more, " A="+text+more, text+more+" A=")
	}
	noParams(t, api.ErrPathMany, strings.Repeat(" A", 17), strings.Repeat(" A=1", 17), strings.Repeat(" A", 18))
}
