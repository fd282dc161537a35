package pipe_test

import (
	"fmt"
	"slices"
	"testing"

	"waybill/api"
	"waybill/pipe"
)

// model is the pipes as the chapter's words say it: one list of pipes, one of all messages that are held, each question going through the whole of it.
type model struct {
	pipes []modelPipe
	held  []modelPiece
}

type modelPipe struct {
	from, to string
	most     int
}

type modelPiece struct{ from, to, bytes string }

func (m *model) most(from, to string) int {
	for _, x := range m.pipes {
		if x.from == from && x.to == to {
			return x.most
		}
	}
	return 0
}

func (m *model) length(from, to string) int {
	n := 0
	for _, x := range m.held {
		if x.from == from && x.to == to {
			n++
		}
	}
	return n
}

func (m *model) ports() map[string]int {
	ports := map[string]int{}
	for _, x := range m.pipes {
		ports[x.from], ports[x.to] = 1, 1
	}
	return ports
}

// open is asked for ports that may be, alone.
func (m *model) open(from, to string, most int) api.Errno {
	ports := m.ports()
	ports[from], ports[to] = 1, 1
	if from == to || m.most(from, to) > 0 || len(ports) > 32 {
		return api.ErrPipePort
	}
	if most < 1 || most > 64 {
		return api.ErrArg
	}
	m.pipes = append(m.pipes, modelPipe{from, to, most})
	return api.OK
}

func (m *model) send(from, to, b string) api.Errno {
	most := m.most(from, to)
	switch {
	case most == 0:
		return api.ErrPipeNone
	case len(b) > 65536:
		return api.ErrPipeLong
	case m.length(from, to) >= most:
		return api.ErrPipeFull
	}
	m.held = append(m.held, modelPiece{from, to, b})
	return api.OK
}

func (m *model) take(from, to string) (string, api.Errno) {
	if m.most(from, to) == 0 {
		return "", api.ErrPipeNone
	}
	for i, x := range m.held {
		if x.from == from && x.to == to {
			m.held = slices.Delete(m.held, i, i+1)
			return x.bytes, api.OK
		}
	}
	return "", api.ErrPipeEmpty
}

func (m *model) clear(port string) int {
	before := len(m.held)
	m.held = slices.DeleteFunc(m.held, func(x modelPiece) bool { return x.from == port || x.to == port })
	return before - len(m.held)
}

func (m *model) waiting() []string {
	var ports []string
	for _, x := range m.held {
		if !slices.Contains(ports, x.to) {
			ports = append(ports, x.to)
		}
	}
	slices.Sort(ports)
	return ports
}

// dice are numbers that look like chance, the same ones each time.
type dice uint64

func (d *dice) roll(n int) int {
	*d = *d*6364136223846793005 + 1442695040888963407
	return int(uint64(*d>>33) % uint64(n))
}

// play is one call, on both.
func play(t *testing.T, d *dice, ports, serial int, p *pipe.Pipes, m *model) {
	t.Helper()
	from, to := portName(d.roll(ports)), portName(d.roll(ports))
	switch n := d.roll(100); {
	case n < 10:
		most := d.roll(8)
		if d.roll(10) == 0 {
			most = 62 + d.roll(5)
		}
		opens(t, p, from, to, most, m.open(from, to, most))
	case n < 60:
		b := fmt.Sprint(serial)
		if d.roll(50) == 0 {
			b += great(65536 - d.roll(10))
		}
		sends(t, p, from, to, b, m.send(from, to, b))
	case n < 97:
		if b, e := m.take(from, to); e != api.OK {
			takesNothing(t, p, from, to, e)
		} else {
			takes(t, p, from, to, b)
		}
	default:
		clears(t, p, from, m.clear(from))
	}
}

func same(t *testing.T, ports int, p *pipe.Pipes, m *model) {
	t.Helper()
	for i := range ports {
		for j := range ports {
			from, to := portName(i), portName(j)
			n := m.length(from, to)
			holds(t, p, from, to, n, m.most(from, to)-n)
			if n > m.most(from, to) {
				t.Errorf("the model holds %d from %q to %q", n, from, to)
			}
		}
	}
	waiting(t, p, m.waiting()...)
}

// TestP5_4Model plays the same calls on pipes and on the model of them: with few ports, whose pipes fill, and with more ports than may be.
func TestP5_4Model(t *testing.T) {
	d := dice(1)
	for _, ports := range []int{2, 3, 4, 6, 40} {
		for range 10 {
			p, m := fresh(t), &model{}
			for serial := range 600 {
				play(t, &d, ports, serial, p, m)
				if serial%10 == 0 {
					same(t, ports, p, m)
				}
				if t.Failed() {
					t.Fatalf("%d ports, call %d", ports, serial)
				}
			}
		}
	}
}

// TestP5_4EachOnce: behind any sends and takes, what was sent is what was taken and what is left, in its order, when nothing was cleared.
func TestP5_4EachOnce(t *testing.T) {
	d := dice(2)
	for most := 1; most <= 64; most++ {
		p := between(t, most, "a b", "b a")
		var sent, taken []string
		for serial := range 500 {
			if b := fmt.Sprint(serial); d.roll(2) == 0 && p.Send("a", "b", []byte(b)) == api.OK {
				sent = append(sent, b)
			} else if b, e := p.Take("a", "b"); e == api.OK {
				taken = append(taken, string(b))
			}
			p.Send("b", "a", []byte("other"))
			if n := p.Len("a", "b"); n > most || n != len(sent)-len(taken) {
				t.Fatalf("%d are in a pipe for %d", n, most)
			}
		}
		for p.Len("a", "b") > 0 {
			b, _ := p.Take("a", "b")
			taken = append(taken, string(b))
		}
		if !slices.Equal(sent, taken) {
			t.Fatalf("most %d: sent %q, taken %q", most, sent, taken)
		}
	}
}
