package faults_test

import (
	"errors"
	"fmt"
	"testing"
	"time"

	"metronome/api"
	"metronome/faults"
)

// P1: every call ends and doesn't panic, also for errors that wrap themselves, and for errors whose methods panic.

type link struct{ next error }

func (l *link) Error() string { return "link" }
func (l *link) Unwrap() error { return l.next }

type panics struct{}

func (panics) Error() string        { panic("Error") }
func (panics) Is(target error) bool { panic("Is") }
func (panics) As(target any) bool   { panic("As") }
func (panics) Unwrap() error        { panic("Unwrap") }

// within fails the test if do doesn't end soon.
func within(t *testing.T, what string, do func()) {
	t.Helper()
	ended := make(chan bool)
	go func() {
		defer close(ended)
		do()
	}()
	select {
	case <-ended:
	case <-time.After(time.Minute):
		t.Fatalf("%s: doesn't end", what)
	}
}

func TestErrorsThatWrapThemselves(t *testing.T) {
	self := &faults.At{Pos: pos(3, 7)}
	self.Err = self
	named := &faults.At{Name: "f", Named: true}
	named.Err = faults.In(named, "g")
	joined := &faults.At{Name: "f", Named: true}
	joined.Err = errors.Join(joined, faults.New(api.Typed, pos(4, 5)), api.Name)
	foreign := &link{}
	foreign.next = foreign
	list := several{nil}
	list[0] = list
	rows := []struct {
		what string
		err  error
		k    api.Kind
		at   api.Pos
	}{
		{"an At about itself", self, api.Fault, pos(3, 7)},
		{"two names about each other", named, api.Fault, pos(0, 0)},
		{"a name about several, itself too", joined, api.Name, pos(4, 5)},
		{"one from elsewhere", foreign, api.Fault, pos(0, 0)},
		{"one from elsewhere, in a name", faults.In(foreign, "f"), api.Fault, pos(0, 0)},
		{"a list of itself", list, api.Fault, pos(0, 0)},
	}
	for _, r := range rows {
		within(t, r.what, func() {
			if k, at := faults.Tell(r.err); k != r.k || at != r.at {
				t.Errorf("%s: Tell = %v, %v, want %v, %v", r.what, k, at, r.k, r.at)
			}
			_ = faults.Text(r.err)
			if faults.First(nil, r.err) == nil {
				t.Errorf("%s: First = nil", r.what)
			}
		})
	}
}

func TestOneErrorTwiceIsNoLoop(t *testing.T) {
	once := faults.In(errors.New("odd"), "f")
	err := errors.Join(once, once, claims{api.Clock})
	if k := faults.Kind(err); k != api.Clock {
		t.Errorf("Kind = %v", k)
	}
	if s := (&faults.At{Pos: pos(1, 1), Err: err}).Error(); s != "1:1: in f: odd\nin f: odd\nclaims" {
		t.Errorf("Error() = %q", s)
	}
}

func TestErrorsThatPanic(t *testing.T) {
	var nowhere *link
	for _, err := range []error{panics{}, nowhere, faults.In(panics{}, "f"), fmt.Errorf("x: %w", panics{}), errors.Join(panics{}, nowhere)} {
		if k, at := faults.Tell(err); k != api.Fault || at != pos(0, 0) {
			t.Errorf("Tell = %v, %v", k, at)
		}
		_ = faults.Text(err)
		if faults.First(err) != err {
			t.Error("First isn't the only one")
		}
	}
	if s := faults.Text(faults.In(panics{}, "f")); s != "in f: " {
		t.Errorf("Text = %q", s)
	}
}

func TestDeepErrors(t *testing.T) {
	const deep = 1 << 18
	within(t, "a deep error", func() {
		named := faults.New(api.Cause, pos(3, 7))
		for range deep {
			named = faults.In(named, "f")
		}
		if k, at := faults.Tell(named); k != api.Cause || at != pos(3, 7) {
			t.Errorf("Tell = %v, %v", k, at)
		}
		if s := faults.Text(named); len(s) != deep*len("in f: ")+len("3:7: cause") {
			t.Errorf("Text is of %d bytes", len(s))
		}
	})
}

// P2: an answer hangs on the arguments alone.
func TestAskedAgain(t *testing.T) {
	err := errors.Join(faults.In(errors.New("odd"), "f"), faults.New(api.Typed, pos(3, 7)), faults.New(api.Name, pos(1, 2)))
	k, at := faults.Tell(err)
	text := faults.Text(err)
	for range 100 {
		if k2, at2 := faults.Tell(err); k2 != k || at2 != at || faults.Text(err) != text {
			t.Fatalf("asked again: %v, %v", k2, at2)
		}
	}
}
