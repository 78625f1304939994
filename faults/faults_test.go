package faults_test

import (
	"errors"
	"fmt"
	"testing"

	"metronome/api"
	"metronome/faults"
)

func pos(line, col int) api.Pos { return api.Pos{Line: line, Col: col} }

// The errors below come from elsewhere: what the package is asked about them it must find by their methods.

type several []error

func (s several) Error() string   { return "several" }
func (s several) Unwrap() []error { return s }

type claims []api.Kind

func (c claims) Error() string { return "claims" }
func (c claims) Is(target error) bool {
	for _, k := range c {
		if target == error(k) {
			return true
		}
	}
	return false
}

type lends struct{ at *faults.At }

func (l lends) Error() string { return "lends" }
func (l lends) As(target any) bool {
	t, ok := target.(**faults.At)
	if ok {
		*t = l.at
	}
	return ok
}

// P1.1

func TestErrorTexts(t *testing.T) {
	var none *faults.At
	rows := []struct {
		at   *faults.At
		want string
	}{
		{none, "ok"},
		{&faults.At{}, "0:0"},
		{&faults.At{Pos: pos(3, 7)}, "3:7"},
		{&faults.At{Pos: pos(-1, 65536)}, "-1:65536"},
		{&faults.At{Pos: pos(3, 7), Err: api.Typed}, "3:7: typed"},
		{&faults.At{Pos: pos(3, 7), Name: "f", Err: api.Typed}, "3:7: typed"},
		{&faults.At{Pos: pos(3, 7), Name: "f", Named: true, Err: api.Typed}, "in f: typed"},
		{&faults.At{Name: "f", Named: true}, "in f"},
		{&faults.At{Named: true}, "in "},
		{&faults.At{Named: true, Err: none}, "in : ok"},
		{&faults.At{Pos: pos(1, 2), Err: &faults.At{Pos: pos(3, 4), Err: errors.New("odd")}}, "1:2: 3:4: odd"},
		{&faults.At{Pos: pos(1, 2), Err: errors.New("")}, "1:2: "},
		{&faults.At{Pos: pos(1, 2), Err: fmt.Errorf("x %w y", faults.New(api.Name, pos(3, 4)))}, "1:2: x 3:4: name y"},
	}
	for _, r := range rows {
		if got := r.at.Error(); got != r.want {
			t.Errorf("Error() = %q, want %q", got, r.want)
		}
		if got := faults.Text(r.at); got != r.want {
			t.Errorf("Text = %q, want %q", got, r.want)
		}
	}
}

func TestUnwrap(t *testing.T) {
	var none *faults.At
	if none.Unwrap() != nil || (&faults.At{}).Unwrap() != nil {
		t.Error("Unwrap of what wraps nothing isn't nil")
	}
	odd := errors.New("odd")
	if (&faults.At{Err: odd}).Unwrap() != odd || (&faults.At{Named: true, Err: odd}).Unwrap() != odd {
		t.Error("Unwrap isn't Err")
	}
}

func TestNew(t *testing.T) {
	if err := faults.New(api.OK, pos(3, 7)); err != nil {
		t.Errorf("New of OK = %v", err)
	}
	for _, k := range []api.Kind{api.Lexic, api.Typed, api.Fault, 13, -1} {
		a, ok := faults.New(k, pos(3, 7)).(*faults.At)
		if !ok || *a != (faults.At{Pos: pos(3, 7), Err: k}) {
			t.Errorf("New of %d = %v", int(k), a)
		}
	}
}

func TestIn(t *testing.T) {
	if err := faults.In(nil, "f"); err != nil {
		t.Errorf("In of nil = %v", err)
	}
	var none *faults.At
	for _, err := range []error{api.Typed, faults.New(api.Name, pos(1, 1)), none} {
		a, ok := faults.In(err, "f").(*faults.At)
		if !ok || *a != (faults.At{Name: "f", Named: true, Err: err}) {
			t.Errorf("In of %v = %v", err, a)
		}
	}
}

// P1.2

func TestKindOfEachKind(t *testing.T) {
	for k := api.Lexic; k <= api.Fault; k++ {
		made := faults.New(k, pos(1, 1))
		for _, err := range []error{k, made, faults.In(made, "f"), fmt.Errorf("x: %w", made), several{nil, made}} {
			if got := faults.Kind(err); got != k {
				t.Errorf("Kind(%v) = %v, want %v", err, got, k)
			}
		}
	}
}

func TestKind(t *testing.T) {
	var none *faults.At
	rows := []struct {
		err  error
		want api.Kind
	}{
		{nil, api.OK},
		{api.OK, api.Fault},
		{api.Kind(13), api.Fault},
		{api.Kind(-1), api.Fault},
		{none, api.Fault},
		{&faults.At{}, api.Fault},
		{faults.In(none, "f"), api.Fault},
		{errors.New("typed"), api.Fault},
		{fmt.Errorf("%v", api.Typed), api.Fault},
		{errors.Join(api.Cause, api.Twice, api.Init), api.Twice},
		{errors.Join(errors.New("odd"), faults.New(api.Entry, pos(1, 1))), api.Entry},
		{errors.Join(faults.In(api.Fault, "f"), faults.New(api.Loop, pos(1, 1))), api.Loop},
		{several{api.Fault, errors.New("odd")}, api.Fault},
		{claims{api.Init, api.Clock}, api.Clock},
		{faults.In(claims{api.Limit}, "f"), api.Limit},
		{several{api.Init, claims{api.Syntax}}, api.Syntax},
		{several{}, api.Fault},
	}
	for _, r := range rows {
		if got := faults.Kind(r.err); got != r.want {
			t.Errorf("Kind(%v) = %v, want %v", r.err, got, r.want)
		}
	}
}

func TestWhere(t *testing.T) {
	var none *faults.At
	here := faults.New(api.Typed, pos(3, 7))
	there := faults.New(api.Name, pos(1, 2))
	rows := []struct {
		what string
		err  error
		want api.Pos
	}{
		{"nil", nil, pos(0, 0)},
		{"a kind", api.Typed, pos(0, 0)},
		{"an error from elsewhere", errors.New("3:7"), pos(0, 0)},
		{"an At", here, pos(3, 7)},
		{"an At of the zero Pos before another", &faults.At{Err: here}, pos(0, 0)},
		{"an At within an At: the outer one", &faults.At{Pos: pos(9, 9), Err: here}, pos(9, 9)},
		{"an At within names", faults.In(faults.In(here, "f"), "g"), pos(3, 7)},
		{"a name with a Pos", &faults.At{Pos: pos(9, 9), Named: true, Err: here}, pos(3, 7)},
		{"a name alone", &faults.At{Pos: pos(9, 9), Named: true}, pos(0, 0)},
		{"a name about a kind", faults.In(api.Typed, "f"), pos(0, 0)},
		{"a nil At", none, pos(0, 0)},
		{"a nil At in a name", faults.In(none, "f"), pos(0, 0)},
		{"a nil At first", errors.Join(none, here), pos(0, 0)},
		{"a nil At later", errors.Join(here, none), pos(3, 7)},
		{"wrapped from elsewhere", fmt.Errorf("x: %w", faults.In(fmt.Errorf("y: %w", here), "f")), pos(3, 7)},
		{"several: the first", errors.Join(here, there), pos(3, 7)},
		{"several: the outer and first", errors.Join(faults.In(here, "f"), there), pos(3, 7)},
		{"several: a name without a place first", errors.Join(faults.In(api.Typed, "f"), here, there), pos(3, 7)},
		{"several, uncomparable", several{nil, errors.New("odd"), several{faults.In(api.Typed, "f")}, here}, pos(3, 7)},
		{"lent", faults.In(lends{&faults.At{Pos: pos(5, 5)}}, "f"), pos(5, 5)},
		{"lent, before another", errors.Join(lends{&faults.At{Pos: pos(5, 5)}}, here), pos(5, 5)},
		{"lent nil", errors.Join(lends{nil}, here), pos(0, 0)},
		{"lent with a name", errors.Join(lends{&faults.At{Named: true}}, here), pos(3, 7)},
	}
	for _, r := range rows {
		if got := faults.Where(r.err); got != r.want {
			t.Errorf("%s: Where = %v, want %v", r.what, got, r.want)
		}
	}
}

func TestTell(t *testing.T) {
	rows := []struct {
		err error
		k   api.Kind
		at  api.Pos
	}{
		{nil, api.OK, pos(0, 0)},
		{faults.In(faults.New(api.Typed, pos(3, 7)), "f"), api.Typed, pos(3, 7)},
		{api.Entry, api.Entry, pos(0, 0)},
		{errors.New("odd"), api.Fault, pos(0, 0)},
	}
	for _, r := range rows {
		if k, at := faults.Tell(r.err); k != r.k || at != r.at {
			t.Errorf("Tell(%v) = %v, %v", r.err, k, at)
		}
	}
}

func TestText(t *testing.T) {
	rows := []struct {
		err  error
		want string
	}{
		{nil, "ok"},
		{api.OK, "ok"},
		{api.Typed, "typed"},
		{api.Kind(99), "kind"},
		{errors.New(""), ""},
		{errors.New("odd"), "odd"},
		{faults.In(faults.New(api.Typed, pos(3, 7)), "f"), "in f: 3:7: typed"},
	}
	for _, r := range rows {
		if got := faults.Text(r.err); got != r.want {
			t.Errorf("Text = %q, want %q", got, r.want)
		}
	}
}

func TestFirst(t *testing.T) {
	var none *faults.At
	a := faults.New(api.Name, pos(2, 9))
	b := faults.In(faults.New(api.Twice, pos(2, 3)), "f")
	c := faults.New(api.Typed, pos(10, 1))
	d := faults.New(api.Cause, pos(2, 3))
	rows := []struct {
		what string
		l    []error
		want error
	}{
		{"none", nil, nil},
		{"nils", []error{nil, nil}, nil},
		{"one", []error{nil, c, nil}, c},
		{"a lesser column", []error{a, b}, b},
		{"a lesser line, a greater column", []error{c, a}, a},
		{"a lesser line first", []error{a, c}, a},
		{"as far: the first", []error{b, d}, b},
		{"as far: the first, the other way", []error{c, d, b}, d},
		{"without a place", []error{a, api.Entry, errors.New("odd")}, api.Entry},
		{"a nil At is an error without a place", []error{a, none}, none},
	}
	for _, r := range rows {
		before := append([]error(nil), r.l...)
		if got := faults.First(r.l...); got != r.want {
			t.Errorf("%s: First = %v, want %v", r.what, got, r.want)
		}
		for i := range before {
			if before[i] != r.l[i] {
				t.Errorf("%s: First has changed its arguments", r.what)
			}
		}
	}
}
