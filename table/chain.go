package table

// Chain is several tables, asked one behind the other. It holds them as values, so that it shares no Table with those who joined it.
type Chain struct {
	tables []Table
}

// Join makes one.
func Join(l []*Table) *Chain {
	c := &Chain{}
	for _, t := range l {
		if t != nil {
			c.tables = append(c.tables, *t)
		}
	}
	return c
}

func (c *Chain) Exact(key string) (string, bool) {
	return c.first(func(t *Table) (string, bool) { return t.Exact(key) })
}

func (c *Chain) Address(local, domain string) (string, bool) {
	return c.first(func(t *Table) (string, bool) { return t.Address(local, domain) })
}

func (c *Chain) Domain(domain string) (string, bool) {
	return c.first(func(t *Table) (string, bool) { return t.Domain(domain) })
}

// first is what the first table answers that has it.
func (c *Chain) first(ask func(*Table) (string, bool)) (string, bool) {
	for i := range c.tables {
		if value, is := ask(&c.tables[i]); is {
			return value, true
		}
	}
	return "", false
}
