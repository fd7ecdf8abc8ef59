package forest

import (
	"slices"

	"tableau/api"
	"tableau/order"
	"tableau/state"
)

// turn turns what a surface is to have.
func (f *Forest) turn(id int, by func(p *api.State)) error {
	s, err := f.find(id)
	if err != nil {
		return err
	}
	by(&s.pending)
	return nil
}

// Attach gives a surface a buffer.
func (f *Forest) Attach(id, buffer int) error {
	return f.turn(id, func(p *api.State) { p.Attach, p.Buffer = true, buffer })
}

// Damage says what is to be painted again.
func (f *Forest) Damage(id int, r api.Rect) error {
	return f.turn(id, func(p *api.State) { p.Damage = append(p.Damage, r) })
}

// Frame asks for a frame.
func (f *Forest) Frame(id, callback int) error {
	return f.turn(id, func(p *api.State) { p.Frames = append(p.Frames, callback) })
}

// Input says where input comes.
func (f *Forest) Input(id int, all bool, region []api.Rect) error {
	return f.turn(id, func(p *api.State) {
		p.Input, p.All, p.Region = true, all, nil
		if !all {
			p.Region = slices.Clone(region)
		}
	})
}

// Position says where a subsurface is.
func (f *Forest) Position(id, x, y int) error {
	_, parent, err := f.findSub(id)
	if err != nil {
		return err
	}
	at := api.Child{ID: id, X: cut(x), Y: cut(y)}
	parent.pending.Places = state.Put(parent.pending.Places, at)
	return nil
}

// cut is the nearest number that a place may have, so that no sum of places, however deep, goes round.
func cut(n int) int { return min(max(n, -api.MaxEdge), api.MaxEdge) }

// Above says above whom a subsurface is.
func (f *Forest) Above(id, by int) error { return f.place(id, by, order.Above) }

// Below says below whom.
func (f *Forest) Below(id, by int) error { return f.place(id, by, order.Below) }

// place puts a subsurface beside another one, or beside its parent, which is 0 in its own order. A by of 0 names nobody.
func (f *Forest) place(id, by int, beside func(l []int, id, by int) ([]int, error)) error {
	s, parent, err := f.findSub(id)
	if err != nil {
		return err
	}
	if by == 0 {
		return api.ErrPlace
	}
	if by == s.parent {
		by = 0
	}
	l, err := beside(parent.latest(), id, by)
	if err != nil {
		return err
	}
	parent.reorder(l)
	return nil
}

// Sync says whether a subsurface is sync by itself.
func (f *Forest) Sync(id int, on bool) error {
	s, _, err := f.findSub(id)
	if err != nil {
		return err
	}
	s.sync = on
	return nil
}

// Synced tells whether a surface waits for its parent.
func (f *Forest) Synced(id int) bool {
	s, _, err := f.findSub(id)
	return err == nil && (s.sync || f.Synced(s.parent))
}
