package forest

import (
	"slices"

	"tableau/api"
	"tableau/state"
)

// Commit commits a surface. What is to come goes by way of what is cached: it waits there, or is applied at once.
func (f *Forest) Commit(id int) ([]int, error) {
	s, err := f.find(id)
	if err != nil {
		return nil, err
	}
	s.cached, s.pending = state.Merge(s.cached, s.pending), api.State{}
	if f.Synced(id) {
		return nil, nil
	}
	s.apply()
	return append([]int{id}, f.applyBelow(s)...), nil
}

// apply makes what is cached current.
func (s *surface) apply() {
	s.current, s.cached = state.Apply(s.current, s.cached), api.State{}
}

// applyBelow applies what waits for a surface, in the order that it has now, and tells whose that was. One that has nothing cached is gone through too: its children may have waited with it. (0, the surface itself in its order, is nobody who is synced.)
func (f *Forest) applyBelow(s *surface) []int {
	var applied []int
	var below func(s *surface)
	below = func(s *surface) {
		for _, id := range s.current.Order {
			if !f.Synced(id) {
				continue
			}
			child := f.surfaces[id]
			if !state.None(child.cached) {
				child.apply()
				applied = append(applied, id)
			}
			below(child)
		}
	}
	below(s)
	return applied
}

// show is one of a surface's states, in memory of its own: nothing is merged into it.
func (f *Forest) show(id int, which func(s *surface) api.State) api.State {
	s, err := f.find(id)
	if err != nil {
		return api.State{}
	}
	return state.Merge(which(s), api.State{})
}

// Pending is what is to come.
func (f *Forest) Pending(id int) api.State {
	return f.show(id, func(s *surface) api.State { return s.pending })
}

// Cached is what waits for the parent.
func (f *Forest) Cached(id int) api.State {
	return f.show(id, func(s *surface) api.State { return s.cached })
}

// Current is what a surface has.
func (f *Forest) Current(id int) api.State {
	return f.show(id, func(s *surface) api.State { return s.current })
}

// Take takes the callbacks of frames. The list goes with them: no one else has it.
func (f *Forest) Take(id int) []int {
	s, err := f.find(id)
	if err != nil {
		return nil
	}
	l := s.current.Frames
	s.current.Frames = nil
	return l
}

// Held are the buffers that are held.
func (f *Forest) Held() []int {
	var all []int
	for _, s := range f.surfaces {
		if s.cached.Attach && s.cached.Buffer > 0 {
			all = append(all, s.cached.Buffer)
		}
		if s.current.Buffer > 0 {
			all = append(all, s.current.Buffer)
		}
	}
	slices.Sort(all)
	return slices.Compact(all)
}

// Walk are the surfaces that are seen with one, from the lowest on, and where.
func (f *Forest) Walk(id int) []api.Child {
	var seen []api.Child
	var walk func(id, x, y int)
	walk = func(id, x, y int) {
		s, err := f.find(id)
		if err != nil || s.current.Buffer == 0 {
			return
		}
		for _, child := range s.current.Order {
			if child == 0 {
				seen = append(seen, api.Child{ID: id, X: x, Y: y})
				continue
			}
			at, _ := state.Find(s.current.Places, child)
			walk(child, x+at.X, y+at.Y)
		}
	}
	walk(id, 0, 0)
	return seen
}
