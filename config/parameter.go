package config

import (
	"slices"
	"strconv"
	"strings"

	"waybill/api"
	"waybill/cidr"
)

const (
	mostThings = 100 // of a list
	mostTables = 8
)

// parameter is one: how it is called, what its value is if no entry says it, and what is done with its field of a configuration.
type parameter struct {
	name, other string
	read        func(c *api.Config, value string) bool // of an expanded value; false, if that is not what it is to be
	isRight     func(c *api.Config) bool
	write       func(c *api.Config) string // of a field that is right
}

// parameters are all of them, by rising names: in this order their faults are told, too.
func parameters() []parameter {
	return []parameter{
		tables("canonical_maps", func(c *api.Config) *[]string { return &c.Canonical }),
		number("destination_concurrency", "20", 1, 1000, func(c *api.Config) *int { return &c.DestLimit }),
		single("double_bounce_sender", "double-bounce", localForm, func(c *api.Config) *string { return &c.DoubleBounce }),
		number("hopcount_limit", "50", 1, 1000, func(c *api.Config) *int { return &c.HopLimit }),
		number("initial_concurrency", "5", 1, 1000, func(c *api.Config) *int { return &c.InitialDest }),
		number("mailbox_size_limit", "51200000", 0, 67108864, func(c *api.Config) *int { return &c.MailboxLimit }),
		number("maximal_backoff", "4000", 1, 1000000, func(c *api.Config) *int { return &c.MaxBackoff }),
		number("message_size_limit", "102400", 1, 1048576, func(c *api.Config) *int { return &c.SizeLimit }),
		number("minimal_backoff", "300", 1, 1000000, func(c *api.Config) *int { return &c.MinBackoff }),
		domains("mydestination", "$myhostname", func(c *api.Config) *[]string { return &c.Destinations }),
		single("myhostname", "localhost.localdomain", domainForm, func(c *api.Config) *string { return &c.Hostname }),
		ranges("mynetworks", "127.0.0.0/8", func(c *api.Config) *[]api.Net { return &c.Networks }),
		number("queue_lifetime", "432000", 0, 100000000, func(c *api.Config) *int { return &c.Lifetime }),
		domains("relay_domains", "", func(c *api.Config) *[]string { return &c.Relays }),
		single("relayhost", "", relayForm, func(c *api.Config) *string { return &c.RelayHost }),
		number("smtpd_error_limit", "20", 1, 1000, func(c *api.Config) *int { return &c.ErrorLimit }),
		number("smtpd_recipient_limit", "100", 1, 200, func(c *api.Config) *int { return &c.RcptLimit }),
		tables("transport_maps", func(c *api.Config) *[]string { return &c.Transport }),
		tables("virtual_alias_maps", func(c *api.Config) *[]string { return &c.Virtual }),
	}
}

func number(name, other string, least, most int, field func(c *api.Config) *int) parameter {
	isRight := func(c *api.Config) bool { return least <= *field(c) && *field(c) <= most }
	return parameter{
		name:  name,
		other: other,
		read: func(c *api.Config, value string) bool {
			n, is := readNumber(value)
			*field(c) = n
			return is && isRight(c)
		},
		isRight: isRight,
		write:   func(c *api.Config) string { return strconv.Itoa(*field(c)) },
	}
}

// single is a parameter that is one text. It is right, if it is its own form.
func single(name, other string, formOf func(s string) (string, bool), field func(c *api.Config) *string) parameter {
	return parameter{
		name:  name,
		other: other,
		read: func(c *api.Config, value string) bool {
			form, is := formOf(value)
			*field(c) = form
			return is
		},
		isRight: func(c *api.Config) bool {
			form, is := formOf(*field(c))
			return is && form == *field(c)
		},
		write: func(c *api.Config) string { return *field(c) },
	}
}

func domains(name, other string, field func(c *api.Config) *[]string) parameter {
	return several(name, other, domainForm, field, func(l []string) bool { return len(l) <= mostThings })
}

func tables(name string, field func(c *api.Config) *[]string) parameter {
	return several(name, "", tableForm, field, func(l []string) bool { return len(l) <= mostTables && areUnlike(l) })
}

// several is a parameter that is a list of texts. These are right, if each is its own form, and all together may be.
func several(name, other string, formOf func(s string) (string, bool), field func(c *api.Config) *[]string, mayBe func(l []string) bool) parameter {
	return parameter{
		name:  name,
		other: other,
		read: func(c *api.Config, value string) bool {
			l, is := formsOf(strings.FieldsFunc(value, isSeparator), formOf)
			*field(c) = l
			return is && mayBe(l)
		},
		isRight: func(c *api.Config) bool {
			if !mayBe(*field(c)) { // ahead of the forms: there may be very many
				return false
			}
			l, is := formsOf(*field(c), formOf)
			return is && slices.Equal(l, *field(c))
		},
		write: func(c *api.Config) string { return strings.Join(*field(c), ", ") },
	}
}

func ranges(name, other string, field func(c *api.Config) *[]api.Net) parameter {
	isRight := func(c *api.Config) bool {
		return len(*field(c)) <= mostThings && !slices.ContainsFunc(*field(c), func(n api.Net) bool { return !cidr.Right(n) })
	}
	return parameter{
		name:  name,
		other: other,
		read: func(c *api.Config, value string) bool {
			l, code := cidr.List(value)
			*field(c) = l
			return code == api.OK && isRight(c)
		},
		isRight: isRight,
		write: func(c *api.Config) string {
			var forms []string
			for _, n := range *field(c) {
				form, _ := cidr.Show(n)
				forms = append(forms, form)
			}
			return strings.Join(forms, ", ")
		},
	}
}
