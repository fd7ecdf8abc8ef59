package shell_test

import (
	"math/rand"
	"slices"
	"strconv"
	"testing"

	"tableau/api"
	"tableau/shell"
)

// The model: the document's words, one by one. What a window has been through is told by yes and no, not by a step.

// life is what a window has been through.
type life struct {
	top, told, acked, shown bool
	waits                   []int
}

// model is windows as values that are never written to in place; a window that is not there is no key.
type model map[int]life

func (m model) has(id int) bool { _, ok := m[id]; return ok }

func (m model) add(id int, buffer bool) error {
	if m.has(id) {
		return api.ErrRole
	}
	if buffer {
		return api.ErrState
	}
	m[id] = life{}
	return nil
}

func (m model) drop(id int) error {
	if !m.has(id) {
		return api.ErrObject
	}
	if m[id].top {
		return api.ErrState
	}
	delete(m, id)
	return nil
}

func (m model) makeTop(id int) error {
	if !m.has(id) {
		return api.ErrObject
	}
	if m[id].top {
		return api.ErrRole
	}
	m[id] = life{top: true}
	return nil
}

func (m model) untop(id int) error {
	if !m[id].top {
		return api.ErrObject
	}
	m[id] = life{}
	return nil
}

func (m model) send(id, serial int) error {
	l := m[id]
	if !l.top {
		return api.ErrObject
	}
	l.waits = append(slices.Clone(l.waits), serial)
	m[id] = l
	return nil
}

func (m model) ack(id, serial int) error {
	if !m.has(id) {
		return api.ErrObject
	}
	l := m[id]
	if !l.top {
		return api.ErrState
	}
	for i, n := range l.waits {
		if n == serial {
			l.waits = slices.Clone(l.waits[i+1:])
			l.acked = l.acked || l.told
			m[id] = l
			return nil
		}
	}
	return api.ErrSerial
}

func (m model) commit(id int, buffer bool) (int, error) {
	if !m.has(id) {
		return 0, api.ErrObject
	}
	l := m[id]
	if !l.top || buffer && !l.acked {
		return 0, api.ErrState
	}
	n := 0
	if !l.told {
		l.told, n = true, 1
	} else if l.acked && !l.shown && buffer {
		l.shown, n = true, 2
	} else if l.shown && !buffer {
		l, n = life{top: true}, 3
	}
	m[id] = l
	return n, nil
}

// step does one thing to both, and tells how it is called, what both answered, and the two numbers.
func step(r *rand.Rand, s *shell.Shell, m model) (what string, got, want error, n, wantN int) {
	id, serial := r.Intn(4)-1, r.Intn(5)
	yes := r.Intn(2) == 0
	switch r.Intn(14) {
	case 0:
		return "add", s.Add(id, yes), m.add(id, yes), 0, 0
	case 1:
		return "drop", s.Drop(id), m.drop(id), 0, 0
	case 2, 3:
		return "top", s.Top(id), m.makeTop(id), 0, 0
	case 4:
		// seldom, or windows would hardly ever be mapped
		if r.Intn(3) > 0 {
			return "", nil, nil, 0, 0
		}
		return "untop", s.Untop(id), m.untop(id), 0, 0
	case 5, 6, 7:
		return "send", s.Send(id, serial), m.send(id, serial), 0, 0
	case 8, 9, 10:
		return "ack", s.Ack(id, serial), m.ack(id, serial), 0, 0
	}
	n, got = s.Commit(id, r.Intn(2) == 0, yes)
	wantN, want = m.commit(id, yes)
	return "commit", got, want, n, wantN
}

// P18.1 to P18.3: any calls, against what the promises say one by one; each answer is met often enough to be tried.
func TestAny(t *testing.T) {
	r := rand.New(rand.NewSource(18))
	met := map[string]int{}
	for range 400 {
		s, m := shell.New(), model{}
		for i := range 200 {
			what, got, want, n, wantN := step(r, s, m)
			if !just(got, want) || n != wantN {
				t.Fatal(i, what, got, want, n, wantN)
			}
			why := "nil"
			if want != nil {
				why = want.Error()
			}
			met[what+" "+strconv.Itoa(n)+" "+why]++
			for id := -1; id < 4; id++ {
				l := m[id]
				if s.Has(id) != m.has(id) || s.IsTop(id) != l.top || s.Mapped(id) != l.shown || !slices.Equal(s.Waits(id), l.waits) {
					t.Fatal(i, what, id, seen(s, id), l)
				}
			}
		}
	}
	for _, x := range []string{
		"add 0 nil", "add 0 role", "add 0 state", "drop 0 nil", "drop 0 object", "drop 0 state",
		"top 0 nil", "top 0 object", "top 0 role", "untop 0 nil", "untop 0 object", "send 0 nil", "send 0 object",
		"ack 0 nil", "ack 0 object", "ack 0 state", "ack 0 serial",
		"commit 0 nil", "commit 1 nil", "commit 2 nil", "commit 3 nil", "commit 0 object", "commit 0 state",
	} {
		if met[x] < 100 {
			t.Error(x, met[x])
		}
	}
}
