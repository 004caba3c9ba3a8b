package tour

import (
	"cmp"
	"slices"

	"rootstock/api"
	"rootstock/seq"
)

// work is what a call changes, step by step. Behind the first error no step is done any more, and those that were done are gone back: a value that is wrong may be met late, where just a change comes to it. (A step back that comes to it too is left out.)
type work struct {
	seq  *seq.Seq
	back []func() api.Errno // the way back, of the first step first
	err  api.Errno
}

func (t *Tour) work() *work {
	return &work{seq: t.tours()}
}

// end is what the call tells. What was asked was right by then: so where the sequences refuse a step, it is they that are not as a forest's are.
func (w *work) end() api.Errno {
	if w.err == api.OK {
		return api.OK
	}
	for _, back := range slices.Backward(w.back) {
		back()
	}
	switch w.err {
	case api.ErrThere, api.ErrAbsent, api.ErrArg:
		return api.ErrCorrupt
	}
	return w.err
}

// link makes of the tours of two vertices one, by an edge.
func (w *work) link(u, v int) {
	there, back := way(u, v), way(v, u)
	w.make(there)
	w.make(back)
	w.turn(stay(u), there)
	w.turn(stay(v), there)
	w.join(stay(u), there, stay(v), back)
}

// turn turns a vertex's tour till the vertex is the first. One without edges gets a tour. The mark is a token that is alone.
func (w *work) turn(k, mark api.Token) {
	if w.make(k, api.ErrThere) {
		return
	}
	if first := w.first(k, mark); first != k {
		w.split(first, k)
		w.join(k, first)
	}
}

// unlink makes of a tour two, where an edge is in it. What stands between its ways is the tour of the vertex to which the first one leads.
func (w *work) unlink(u, v int) {
	at := w.places(way(u, v), way(v, u), stay(u), stay(v))
	switch {
	case w.err != api.OK:
	case rise(at[0], at[3], at[1]) && !rise(at[0], at[2], at[1]):
		w.takeOut(way(u, v), way(v, u), at[0])
	case rise(at[1], at[2], at[0]) && !rise(at[1], at[3], at[0]):
		w.takeOut(way(v, u), way(u, v), at[1])
	default:
		w.err = api.ErrCorrupt
	}
}

func rise(a, b, c int) bool {
	return a < b && b < c
}

// takeOut makes of a tour two: what stands between a way, which is at a place, and the way back, which is behind it; and what stands ahead and behind.
func (w *work) takeOut(there, back api.Token, place int) {
	w.split(there, back)
	w.splitAfter(there, stay(there.B))
	var rest []api.Token
	if k, ok := w.at(there, place-1); ok {
		w.split(k, there)
		rest = append(rest, k)
	}
	if k, ok := w.at(back, 1); ok {
		w.splitAfter(back, k)
		rest = append(rest, k)
	}
	w.remove(there)
	w.remove(back)
	w.join(rest...)
	// A vertex without edges has no token.
	w.remove(stay(there.A), api.ErrArg)
	w.remove(stay(there.B), api.ErrArg)
}

// do does a step, and tells whether it was done. An error that is named in but is none here.
func (w *work) do(step, back func() api.Errno, but ...api.Errno) bool {
	if w.err != api.OK {
		return false
	}
	err := step()
	if err == api.OK {
		w.back = append(w.back, back)
		return true
	}
	if !slices.Contains(but, err) {
		w.err = err
	}
	return false
}

func (w *work) make(k api.Token, but ...api.Errno) bool {
	return w.do(func() api.Errno { return w.seq.Make(k) }, func() api.Errno { return w.seq.Remove(k) }, but...)
}

func (w *work) remove(k api.Token, but ...api.Errno) bool {
	return w.do(func() api.Errno { return w.seq.Remove(k) }, func() api.Errno { return w.seq.Make(k) }, but...)
}

// split cuts ahead of a token; other is one that stands ahead of it.
func (w *work) split(other, k api.Token) {
	w.do(func() api.Errno { return w.seq.Split(k) }, func() api.Errno { return w.seq.Join(other, k) })
}

// splitAfter cuts behind a token; other is one that stands behind it.
func (w *work) splitAfter(k, other api.Token) {
	w.do(func() api.Errno { return w.seq.SplitAfter(k) }, func() api.Errno { return w.seq.Join(k, other) })
}

// join makes one tour of those of tokens, each of which, but for the first, is the first in its own.
func (w *work) join(tokens ...api.Token) {
	for i, k := range tokens {
		if i > 0 {
			w.do(func() api.Errno { return w.seq.Join(tokens[0], k) }, func() api.Errno { return w.seq.Split(k) })
		}
	}
}

// ask asks a question. Where the tree errs that was just asked, it must be done with: so the change that comes to the same pages is begun too, and what it tells is told.
func (w *work) ask(question, change func() api.Errno) {
	if w.err != api.OK {
		return
	}
	w.err = question()
	if w.err != api.OK {
		w.err = cmp.Or(change(), w.err)
	}
}

// has tells whether there is a token.
func (w *work) has(k api.Token) (there bool) {
	w.ask(func() (err api.Errno) {
		there, err = w.seq.Has(k)
		return err
	}, func() api.Errno { return w.seq.Make(k) })
	return there
}

// same tells whether two tokens are in one sequence.
func (w *work) same(a, b api.Token) (same bool) {
	w.ask(func() (err api.Errno) {
		same, err = w.seq.Same(a, b)
		return err
	}, func() api.Errno { return w.seq.Join(a, b) })
	return same
}

// apart tells whether two vertices are not joined; one that has no token is joined with none.
func (w *work) apart(a, b api.Token) bool {
	same := w.same(a, b)
	if w.err == api.ErrAbsent {
		w.err = api.OK
	}
	return w.err == api.OK && !same
}

// first is the first token of a sequence. To put the mark, which is alone, ahead of it comes to the same tokens.
func (w *work) first(k, mark api.Token) (first api.Token) {
	w.ask(func() (err api.Errno) {
		first, err = w.seq.At(k, 0)
		return err
	}, func() api.Errno { return w.seq.Join(mark, k) })
	return first
}

// places are how many stand ahead of each of some tokens, that must be in one sequence.
func (w *work) places(tokens ...api.Token) []int {
	var l []int
	for _, k := range tokens {
		if !w.same(tokens[0], k) {
			w.err = cmp.Or(w.err, api.ErrCorrupt)
			return nil
		}
		place := 0
		w.ask(func() (err api.Errno) {
			place, err = w.seq.Rank(k)
			return err
		}, func() api.Errno { return w.seq.Split(k) })
		l = append(l, place)
	}
	return l
}

// at is the token at a place of a sequence, if there is one. A cut just came to it: so nothing that was not met may err here.
func (w *work) at(k api.Token, place int) (api.Token, bool) {
	if w.err != api.OK {
		return api.Token{}, false
	}
	other, err := w.seq.At(k, place)
	if err != api.OK && err != api.ErrArg {
		w.err = err
	}
	return other, err == api.OK
}
