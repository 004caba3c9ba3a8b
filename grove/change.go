package grove

import (
	"slices"

	"rootstock/api"
	"rootstock/draft"
)

// work is what a call is about to change, step by step, in the draft. Behind the first error no step is done any more.
type work struct {
	draft *draft.Draft
	err   api.Errno
}

// end is what the call tells. What was asked was right by then: so where the sequences refuse a step, it is they that are not as a forest's are.
func (w *work) end() api.Errno {
	switch w.err {
	case api.ErrThere, api.ErrAbsent, api.ErrArg:
		return api.ErrCorrupt
	}
	return w.err
}

// link makes of the tours of two vertices one, by an edge.
func (w *work) link(u, v int) {
	there, back := way(u, v), way(v, u)
	w.make(there)
	w.make(back)
	w.turn(stay(u))
	w.turn(stay(v))
	w.join(stay(u), there, stay(v), back)
}

// turn turns a vertex's tour till the vertex is the first. One without edges gets a tour.
func (w *work) turn(k api.Token) {
	if w.make(k, api.ErrThere) {
		return
	}
	if first, ok := w.at(k, 0); ok && first != k {
		w.split(k)
		w.join(k, first)
	}
}

// unlink makes of a tour two, where an edge is in it. What stands between its ways is the tour of the vertex to which the first one leads.
func (w *work) unlink(u, v int) {
	at := w.places(way(u, v), way(v, u), stay(u), stay(v))
	switch {
	case w.err != api.OK:
	case rise(at[0], at[3], at[1]) && !rise(at[0], at[2], at[1]):
		w.takeOut(way(u, v), way(v, u), at[0])
	case rise(at[1], at[2], at[0]) && !rise(at[1], at[3], at[0]):
		w.takeOut(way(v, u), way(u, v), at[1])
	default:
		w.err = api.ErrCorrupt
	}
}

func rise(a, b, c int) bool {
	return a < b && b < c
}

// takeOut makes of a tour two: what stands between a way, which is at a place, and the way back, which is behind it; and what stands ahead and behind.
func (w *work) takeOut(there, back api.Token, place int) {
	w.split(back)
	w.splitAfter(there)
	var rest []api.Token
	if k, ok := w.at(there, place-1); ok {
		w.split(there)
		rest = append(rest, k)
	}
	if k, ok := w.at(back, 1); ok {
		w.splitAfter(back)
		rest = append(rest, k)
	}
	w.remove(there)
	w.remove(back)
	w.join(rest...)
	// A vertex without edges has no token.
	w.remove(stay(there.A), api.ErrArg)
	w.remove(stay(there.B), api.ErrArg)
}

// places are how many stand ahead of each of some tokens, that must be in one sequence.
func (w *work) places(tokens ...api.Token) []int {
	var l []int
	for _, k := range tokens {
		w.do(func() api.Errno {
			same, err := w.draft.Same(tokens[0], k)
			if err == api.OK && !same {
				return api.ErrCorrupt
			}
			return err
		})
		w.do(func() api.Errno {
			place, err := w.draft.Rank(k)
			l = append(l, place)
			return err
		})
	}
	return l
}

// at is the token at a place of a sequence, if there is one.
func (w *work) at(k api.Token, place int) (other api.Token, ok bool) {
	ok = w.do(func() (err api.Errno) {
		other, err = w.draft.At(k, place)
		return err
	}, api.ErrArg)
	return other, ok
}

func (w *work) make(k api.Token, but ...api.Errno) bool {
	return w.do(func() api.Errno { return w.draft.Make(k) }, but...)
}

func (w *work) remove(k api.Token, but ...api.Errno) {
	w.do(func() api.Errno { return w.draft.Remove(k) }, but...)
}

func (w *work) split(k api.Token) {
	w.do(func() api.Errno { return w.draft.Split(k) })
}

func (w *work) splitAfter(k api.Token) {
	w.do(func() api.Errno { return w.draft.SplitAfter(k) })
}

// join makes one tour of those of tokens, in their order.
func (w *work) join(tokens ...api.Token) {
	for i, k := range tokens {
		if i > 0 {
			w.do(func() api.Errno { return w.draft.Join(tokens[0], k) })
		}
	}
}

// do does a step, and tells whether it was done. An error that is named in but is none here.
func (w *work) do(step func() api.Errno, but ...api.Errno) bool {
	if w.err != api.OK {
		return false
	}
	err := step()
	if !slices.Contains(but, err) {
		w.err = err
	}
	return err == api.OK
}
