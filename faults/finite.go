package faults

import (
	"errors"
	"slices"
)

// The fields of an At are open to all, so that one may wrap itself, and errors from elsewhere may have methods that panic.
// What stands here lets the functions of this package end all the same: errors.Is and errors.As alone would not.

// quietly calls do; if it panics, what it has not set is left as it was.
func quietly(do func()) {
	defer func() { _ = recover() }()
	do()
}

// told is the text of an error; "", if its Error panics.
func told(err error) (text string) {
	quietly(func() { text = err.Error() })
	return text
}

// wrapped lists the errors that an error wraps itself.
func wrapped(err error) (kids []error) {
	quietly(func() {
		if one := errors.Unwrap(err); one != nil {
			kids = []error{one}
			return
		}
		var many interface {
			error
			Unwrap() []error
		}
		if errors.As(err, &many) {
			kids = many.Unwrap()
		}
	})
	return kids
}

// unroll lists a and the Ats right beneath it, and the error beneath them all: none, if it wraps itself, for then its text has no end.
func unroll(a *At) (chain []*At, inner error) {
	met := map[*At]int{}
	for met[a] == 0 {
		met[a] = 1
		chain = append(chain, a)
		next, ok := a.Err.(*At)
		if ok && next != nil {
			a = next
			continue
		}
		if a.Err != nil && !newSurvey(a.Err).endless {
			inner = a.Err
		}
		return chain, inner
	}
	return chain, nil
}

// finite is err itself, unless it wraps itself somewhere: then it is an error that has the same Ats and the same innermost errors, in the same order, and an end.
func finite(err error) error {
	s := newSurvey(err)
	if s.endless {
		return errors.Join(s.parts...)
	}
	return err
}

// survey goes through an error and what it wraps, each once, in the order of errors.As.
type survey struct {
	state   map[error]int
	unlike  int     // how many errors were met that aren't like themselves
	parts   []error // the Ats, without what they wrap, and the errors that wrap nothing
	endless bool
}

// The states of an error in a survey.
const (
	unmet = iota
	open  // the survey is within it
	done
)

// mostUnlike bounds the errors that can't be compared, or aren't like themselves: whether such a one wraps itself can't be seen.
const mostUnlike = 1 << 16

// visit is what a survey does next: to enter an error, or, if it is behind all that it wraps, to leave it.
type visit struct {
	err    error
	behind bool
}

func newSurvey(err error) *survey {
	s := &survey{state: map[error]int{}}
	todo := []visit{{err: err}}
	for len(todo) > 0 {
		next := todo[len(todo)-1]
		todo = todo[:len(todo)-1]
		switch {
		case next.behind:
			quietly(func() { s.state[next.err] = done })
		case next.err != nil && s.enters(next.err):
			todo = append(todo, visit{next.err, true})
			for _, kid := range slices.Backward(s.take(next.err)) {
				todo = append(todo, visit{err: kid})
			}
		}
	}
	return s
}

// enters tells whether the survey goes into an error, which then is open. One that is open already wraps itself.
func (s *survey) enters(err error) bool {
	met, kept := unmet, unmet
	quietly(func() {
		met = s.state[err]
		if met == unmet {
			s.state[err] = open
		}
		kept = s.state[err]
	})
	if kept == unmet {
		s.unlike++
	}
	if met == open || s.unlike > mostUnlike {
		s.endless = true
		return false
	}
	return met == unmet
}

// take keeps what an error is to the survey, and lists what it wraps.
func (s *survey) take(err error) []error {
	kids := wrapped(err)
	if a, ok := err.(*At); ok && a != nil {
		s.parts = append(s.parts, &At{Pos: a.Pos, Name: a.Name, Named: a.Named})
	} else if len(kids) == 0 {
		s.parts = append(s.parts, err)
	}
	return kids
}
