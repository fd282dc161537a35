package config

import (
	"strings"

	"waybill/api"
)

// How far a value is expanded.
const (
	asItStands = iota
	underWay
	expanded
)

// setting is what stands for a parameter: whether an entry says it, where that begins, and the value, as it stands there till it is expanded.
type setting struct {
	isSet bool
	start int
	value string
	stage int
}

// settings are those of all parameters, by their names.
type settings map[string]*setting

func unset() settings {
	s := settings{}
	for _, p := range parameters() {
		s[p.name] = &setting{value: p.other}
	}
	return s
}

// take lays what entries say in the place of what else stands there, up to the first one that is wrong.
func (s settings) take(l []entry) api.Fault {
	for _, e := range l {
		if code := s.set(e); code != api.OK {
			return api.Fault{Code: code, At: e.start}
		}
	}
	return api.Fault{}
}

func (s settings) set(e entry) api.Errno {
	x, is := s[e.name]
	switch {
	case !e.isGiven:
		return api.ErrConfigForm
	case !is:
		return api.ErrConfigName
	case x.isSet:
		return api.ErrConfigTwice
	case len(e.value) > api.MaxValue:
		return api.ErrConfigLong
	}
	*x = setting{isSet: true, start: e.start, value: string(e.value)}
	return api.OK
}

// config is what the settings say, or the first fault of them.
func (s settings) config() (api.Config, api.Fault) {
	var c api.Config
	for _, p := range parameters() {
		value, code := s.expand(p.name)
		if code == api.OK && !p.read(&c, value) {
			code = api.ErrConfigValue
		}
		if code != api.OK {
			return api.Config{}, api.Fault{Code: code, At: s[p.name].start}
		}
	}
	if !isInOrder(c) {
		return api.Config{}, api.Fault{Code: api.ErrConfigValue}
	}
	return c, api.Fault{}
}

// expand is the expanded value of a parameter. It is kept: values that name one another many times would else take very many steps.
func (s settings) expand(name string) (string, api.Errno) {
	x, is := s[name]
	switch {
	case !is:
		return "", api.ErrConfigForm
	case x.stage == underWay:
		return "", api.ErrConfigLoop
	case x.stage == expanded:
		return x.value, api.OK
	}
	x.stage = underWay
	value, code := s.put(x.value)
	if code != api.OK {
		return "", code
	}
	x.value, x.stage = value, expanded
	return value, api.OK
}

// put puts a value together, from the left; no $ is looked at behind a byte that is one too many.
func (s settings) put(value string) (string, api.Errno) {
	plain, rest, isMore := strings.Cut(value, "$")
	b := []byte(plain)
	for isMore && len(b) <= api.MaxValue {
		size := len(rest) - len(strings.TrimLeft(rest, small+"_"))
		part, code := s.expand(rest[:size])
		if code != api.OK {
			return "", code
		}
		plain, rest, isMore = strings.Cut(rest[size:], "$")
		b = append(append(b, part...), plain...)
	}
	if len(b) > api.MaxValue {
		return "", api.ErrConfigLong
	}
	return string(b), api.OK
}
