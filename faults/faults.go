// Package faults is layer 1: see shared/doc/01-faults.md.
package faults

import (
	"errors"
	"slices"
	"strconv"
	"strings"

	"metronome/api"
)

// At is an error at a place of a text; or, if it is named, within what has that name.
type At struct {
	Pos   api.Pos
	Name  string
	Named bool
	Err   error
}

// Error: the place, or the name, and what is wrong there.
func (a *At) Error() string {
	if a == nil {
		return "ok"
	}
	chain, inner := unroll(a)
	var b strings.Builder
	for i, x := range chain {
		if i > 0 {
			b.WriteString(": ")
		}
		b.WriteString(x.head())
	}
	if inner != nil {
		b.WriteString(": ")
		b.WriteString(told(inner))
	}
	return b.String()
}

// Unwrap: what is wrong there.
func (a *At) Unwrap() error {
	if a == nil {
		return nil
	}
	return a.Err
}

// New: what is wrong at a place; OK: nothing is.
func New(k api.Kind, p api.Pos) error {
	if k == api.OK {
		return nil
	}
	return &At{Pos: p, Err: k}
}

// In: an error within a node, or a block, that has a name; nothing, if there is none.
func In(err error, name string) error {
	if err == nil {
		return nil
	}
	return &At{Name: name, Named: true, Err: err}
}

// Kind: what is wrong, whatever is wrapped about it; Fault, if it is nothing of these.
func Kind(err error) api.Kind {
	if err == nil {
		return api.OK
	}
	err = finite(err)
	for k := api.Lexic; k < api.Fault; k++ {
		if is(err, k) {
			return k
		}
	}
	return api.Fault
}

// Where: the place of an error, whatever is wrapped about it; none, if it has none.
func Where(err error) api.Pos {
	if err == nil {
		return api.Pos{}
	}
	return place(finite(err))
}

// Tell: what is wrong, and where.
func Tell(err error) (api.Kind, api.Pos) {
	return Kind(err), Where(err)
}

// Text: an error as a line.
func Text(err error) string {
	if err == nil {
		return "ok"
	}
	return told(err)
}

// First: the one of some errors that stands first: of the least place, of several the first.
func First(l ...error) error {
	var first error
	var least api.Pos
	for _, err := range l {
		if err == nil {
			continue
		}
		pos := Where(err)
		if first == nil || before(pos, least) {
			first, least = err, pos
		}
	}
	return first
}

// head is what an At says itself, without what it wraps.
func (a *At) head() string {
	if a.Named {
		return "in " + a.Name
	}
	return strconv.Itoa(a.Pos.Line) + ":" + strconv.Itoa(a.Pos.Col)
}

// is asks an error for a kind. An Is method of an error from elsewhere that panics has found nothing.
func is(err error, k api.Kind) (found bool) {
	quietly(func() { found = errors.Is(err, k) })
	return found
}

// at finds the first At that an error is or wraps.
func at(err error) (a *At, found bool) {
	quietly(func() { found = errors.As(err, &a) })
	return a, found
}

// place is the place that the first At decides on that is nil, or isn't named. errors.As finds but the first At of all: behind a named one, those beneath it and beside it are still to be asked.
func place(err error) api.Pos {
	todo := []error{err}
	for len(todo) > 0 {
		next := todo[len(todo)-1]
		todo = todo[:len(todo)-1]
		a, found := at(next)
		if !found {
			continue
		}
		if a == nil {
			return api.Pos{}
		}
		if !a.Named {
			return a.Pos
		}
		for _, kid := range slices.Backward(wrapped(next)) {
			todo = append(todo, kid)
		}
	}
	return api.Pos{}
}

func before(a, b api.Pos) bool {
	return a.Line < b.Line || a.Line == b.Line && a.Col < b.Col
}
