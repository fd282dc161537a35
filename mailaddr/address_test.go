package mailaddr_test

import (
	"slices"
	"strings"
	"testing"

	"waybill/api"
)

// eachWay calls do with a spec in each surrounding that one may have.
func eachWay(spec string, do func(body string)) {
	for _, w := range [][2]string{{"", ""}, {"<", ">"}, {"N <", ">"}, {"<@x:", ">"}, {"g:", ";"}, {"g:N <", ">;"}, {" (x) ", " (y) "}, {",", ","}} {
		do(w[0] + spec + w[1])
	}
}

func TestP10_1Locals(t *testing.T) {
	l := func(n int) string { return strings.Repeat("l", n) }
	for spec, local := range map[string]string{
		l(64) + "@b":                                     l(64),
		`"` + l(64) + `"@b`:                              l(64),
		l(31) + "." + l(32) + "@b":                       l(31) + "." + l(32),
		l(31) + ` . "` + l(32) + `" @b`:                  l(31) + "." + l(32),
		l(31) + "(" + l(100) + ")." + l(32) + "@b":       l(31) + "." + l(32),
		`"` + l(61) + ` "@b`:                             l(61) + " ",
		`"` + l(30) + ` ".` + l(30) + "@b":               l(30) + " ." + l(30),
		`"` + l(60) + `\""@b`:                            l(60) + `"`,
		`"` + l(60) + `\\"@b`:                            l(60) + `\`,
		`"` + strings.Repeat(`\l`, 64) + `"@b`:           strings.Repeat("l", 64),
		`"` + l(64) + strings.Repeat("\r\n", 99) + `"@b`: l(64),
		`"".` + l(61) + "@b":                             "." + l(61),
		strings.Repeat(`"l".`, 31) + `"ll"@b`:            strings.Repeat("l.", 31) + "ll",
	} {
		eachWay(spec, func(body string) {
			has(t, body, at(local, "b"))
			replaces(t, body, strings.Replace(body, spec, "c@d", 1), cd)
		})
	}
	for _, spec := range []string{l(65) + "@b", l(1000) + "@b", `"` + l(65) + `"@b`, l(32) + "." + l(32) + "@b", `"` + l(62) + ` "@b`, `"` + l(61) + `\""@b`, `"` + l(61) + `\\"@b`, `"".` + l(62) + "@b", strings.Repeat(`"l".`, 32) + "l@b", `"` + strings.Repeat(`\l`, 65) + `"@b`, l(65) + "@[1.2.3.4]"} {
		eachWay(spec, func(body string) { noList(t, api.ErrMailLong, body) })
	}
}

func TestP10_1Domains(t *testing.T) {
	for _, size := range []int{1, 63, 64, 200, 251, 252} {
		eachWay("a@"+strings.ToUpper(domainOf(size)), func(body string) { has(t, body, at("a", domainOf(size))) })
	}
	eachWay("a @ "+strings.ReplaceAll(domainOf(252), ".", " . "), func(body string) { has(t, body, at("a", domainOf(252))) })
	for _, size := range []int{253, 254, 255, 256, 257, 300, 1000} {
		eachWay("a@"+domainOf(size), func(body string) { noList(t, api.ErrMailLong, body) })
		eachWay("a@"+domainOf(size)+".-", func(body string) { noForm(t, body) })
	}
	for local := 1; local <= 64; local++ { // with the local part, the @, the < and the >
		has(t, strings.Repeat("l", local)+"@"+domainOf(253-local), at(strings.Repeat("l", local), domainOf(253-local)))
		noList(t, api.ErrMailLong, strings.Repeat("l", local)+"@"+domainOf(254-local))
	}
	has(t, `"l l"@`+domainOf(248), at("l l", domainOf(248)))
	noList(t, api.ErrMailLong, `"l l"@`+domainOf(249))
	noForm(t, "a@-"+domainOf(255), "a@"+domainOf(255)+"-", "a@"+domainOf(255)+"_", "a@["+domainOf(255)+"]")
}

// TestP10_1WhatIsTold: of one address that may not be and is too long the first is told.
func TestP10_1WhatIsTold(t *testing.T) {
	long := strings.Repeat("l", 65)
	for _, spec := range []string{long + "@-b", long + "@[b]", long + "\x80@b", "\x80@" + domainOf(255), "\x80@" + domainOf(256), `""@` + domainOf(256), "\"\\\x01\"@" + domainOf(300), long + "\x80@" + domainOf(300), long + "@" + domainOf(255) + "-"} {
		eachWay(spec, func(body string) { noForm(t, body) })
	}
	for _, spec := range []string{long + "@b", "postmaster@" + domainOf(256), long + "@" + domainOf(256), `"` + long + ` "@` + domainOf(300)} {
		eachWay(spec, func(body string) { noList(t, api.ErrMailLong, body) })
	}
}

// TestP10_1First: of several addresses that may not be the first one is told, and that there is no list ahead of all of them.
func TestP10_1First(t *testing.T) {
	wrong := []string{"a@-b", "\x80@b", `""@b`, "a@[b]", "a@[]", "a@b_"}
	long := []string{strings.Repeat("l", 65) + "@b", "a@" + domainOf(255), "a@" + domainOf(256)}
	for _, w := range wrong {
		for _, l := range long {
			noForm(t, w+","+l, "c@d,"+w+","+l, "g:"+w+";,"+l, "<"+w+">,N <"+l+">", w+","+l+","+w)
			noList(t, api.ErrMailLong, l+","+w, "c@d,"+l+","+w, "g:"+l+";,"+w, "<"+l+">,N <"+w+">", l+","+w+","+l)
			noForm(t, l+",x", l+",(", l+","+w+")", l+" "+w, l+";", "<"+l, "g:"+l, l+",\x00", l+`,"`, l+",a@b c@d")
			for _, n := range []int{199, 200, 201, 1000} {
				many := strings.Repeat("a@b,", n)
				noForm(t, many+w, many+w+","+l, w+","+many)
				noList(t, api.ErrMailLong, many+l, many+l+","+w, l+","+many)
				noForm(t, many+l+" "+w, many+"x", many+"a@b)")
			}
		}
	}
}

func TestP10_1Many(t *testing.T) {
	for _, n := range []int{1, 2, 199, 200} {
		var want []api.MailAddr
		for i := range n {
			want = append(want, addr(ab, 4*i, 4*i+3, ""))
		}
		parses(t, strings.Repeat("a@b,", n), want...)
		parses(t, strings.Repeat("a@b,", n)[:4*n-1], want...)
		has(t, "g:"+strings.Repeat("N <a@b>,", n)+";", slices.Repeat([]api.Path{ab}, n)...)
		has(t, strings.Repeat("g:a@b;,,", n), slices.Repeat([]api.Path{ab}, n)...)
		has(t, strings.Repeat("<@x,@y:a@b>,", n)+strings.Repeat(",", 1000)+strings.Repeat("g:;,", 300), slices.Repeat([]api.Path{ab}, n)...)
	}
	for _, n := range []int{201, 202, 400, 5000} {
		noList(t, api.ErrMailMany, strings.Repeat("a@b,", n), "g:"+strings.Repeat("a@b,", n)+";", strings.Repeat("g:a@b;,", n), "c@d,"+strings.Repeat("<a@b>,", n-1))
	}
	noList(t, api.ErrMailMany, strings.Repeat("a@b,", 100)+"g:"+strings.Repeat("a@b,", 101)+";", strings.Repeat("a@b,", 16384))
	has(t, strings.Repeat("g:;,", 16384))
	noList(t, api.ErrMailLong, strings.Repeat("a@b,", 16385))
}
