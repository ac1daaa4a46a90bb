package admit_test

import (
	"errors"
	"testing"

	"vademecum/api"
	"vademecum/env"
)

// wrong: something that may be handed in, and what is wrong with it.
type wrong[T any] struct {
	value T
	err   api.Errno
}

// first is the first error of a row; the row has the parts in the order in which they are asked.
func first(l ...api.Errno) api.Errno {
	for _, err := range l {
		if err != api.OK {
			return err
		}
	}
	return api.OK
}

// among is an error if it is one of some, else none.
func among(err api.Errno, l ...api.Errno) api.Errno {
	for _, one := range l {
		if err == one {
			return err
		}
	}
	return api.OK
}

// numberOf is an error's number.
func numberOf(err error) api.Errno {
	var errno api.Errno
	errors.As(err, &errno)
	return errno
}

// asks holds what a call tells against the number that it should tell.
func asks(t *testing.T, e *env.Env, c call, fuel int, want api.Errno) {
	t.Helper()
	had := e.Len()
	next, err := c.on(e, fuel)
	switch {
	case numberOf(err) != want || (err == nil) != (want == api.OK) || (next == nil) != (err != nil) || e.Len() != had:
		t.Errorf("%v by %d, with %d there: %v, want %v", c, fuel, e.Len(), err, want)
	case next != nil && next.Len() != had+len(c.decls()):
		t.Errorf("%v by %d, with %d there: %d", c, fuel, e.Len(), next.Len())
	}
}

// names are names that may be, or not.
var names = []wrong[string]{{"x", 0}, {"y", api.ErrName}, {"nat.rec", api.ErrForm}}

// Whatever is wrong with an axiom or a definition at once, the first of it is told.
func TestP18_1InOrder(t *testing.T) {
	e := known(t)
	types := []wrong[*api.Term]{{constant("nat"), 0}, {nil, api.ErrForm}, {variable(0), api.ErrVar}, {sort(9), api.ErrSort}, {constant("nowhere"), api.ErrName}, {app(constant("nat"), constant("o")), api.ErrFun}}
	values := []wrong[*api.Term]{{constant("o"), 0}, {sort(10), api.ErrForm}, {variable(3), api.ErrVar}, {constant("nat"), api.ErrType}, {constant("nowhere"), api.ErrName}, {app(constant("o"), constant("o")), api.ErrFun}}
	fuels := []wrong[int]{{500, 0}, {0, api.ErrFuel}}
	full := map[api.Errno]*env.Env{api.OK: filled(t, e, api.MaxDecls-1), api.ErrFull: filled(t, e, api.MaxDecls)}
	for _, name := range names {
		for _, a := range types {
			for _, fuel := range fuels {
				for room, e := range full {
					c := call{kind: api.DAxiom, name: name.value, a: a.value}
					asks(t, e, c, fuel.value, first(among(name.err, api.ErrForm), among(a.err, api.ErrForm), name.err, fuel.err, a.err, room))
					for _, b := range values {
						c := call{kind: api.DDef, name: name.value, a: a.value, b: b.value}
						asks(t, e, c, fuel.value, first(among(name.err, api.ErrForm), among(a.err, api.ErrForm), among(b.err, api.ErrForm), name.err, fuel.err, a.err, b.err, room))
						if a.err == api.OK {
							// One of fuel is enough for the type, not for the value.
							asks(t, e, c, 1, first(among(name.err, api.ErrForm), among(b.err, api.ErrForm), name.err, api.ErrFuel))
						}
					}
				}
			}
		}
	}
}

// familyOf is a family whose parts are wrong or not.
type familyOf struct {
	name   wrong[string]
	params wrong[int]
	a      wrong[*api.Term]
	names  [2]wrong[string]
	types  [2]wrong[func(x *api.Term) *api.Term]
}

// call is what is to be let in.
func (f familyOf) call() call {
	c := call{kind: api.DFamily, name: f.name.value, params: f.params.value, a: f.a.value}
	for i := range f.names {
		c.cons = append(c.cons, api.Con{Name: f.names[i].value, Type: f.types[i].value(constant(f.name.value))})
	}
	return c
}

// first is what is told, where there is room for so many declarations.
func (f familyOf) first(room int, fuel api.Errno) api.Errno {
	var l []api.Errno
	all := []api.Errno{f.name.err, f.params.err, f.a.err, f.names[0].err, f.types[0].err, f.names[1].err, f.types[1].err}
	for _, kind := range []api.Errno{api.ErrForm, api.ErrPos} {
		for _, err := range all {
			l = append(l, among(err, kind))
		}
	}
	full := func(n int) api.Errno {
		if room < n {
			return api.ErrFull
		}
		return api.OK
	}
	l = append(l, f.name.err, f.names[0].err, f.names[1].err, fuel, f.a.err, full(1))
	return first(append(l, f.types[0].err, f.types[1].err, full(3))...)
}

// Whatever is wrong with a family at once, the first of it is told.
func TestP18_2InOrder(t *testing.T) {
	e := known(t)
	var rooms []*env.Env
	for room := range 4 {
		rooms = append(rooms, filled(t, e, api.MaxDecls-room))
	}
	types := []wrong[*api.Term]{{sort(0), 0}, {nil, api.ErrForm}, {constant("nat"), api.ErrPos}, {sort(9), api.ErrSort}}
	cons := []wrong[func(x *api.Term) *api.Term]{
		{func(x *api.Term) *api.Term { return pi(constant("nat"), x) }, 0},
		{func(x *api.Term) *api.Term { return pi(variable(0), x) }, api.ErrForm},
		{func(x *api.Term) *api.Term { return constant("nat") }, api.ErrPos},
		{func(x *api.Term) *api.Term { return pi(constant("nowhere"), x) }, api.ErrName},
		{func(x *api.Term) *api.Term { return pi(sort(0), x) }, api.ErrSort},
	}
	for _, name := range names {
		for _, params := range []wrong[int]{{0, 0}, {-1, api.ErrForm}, {1, api.ErrPos}} {
			for _, a := range types {
				for i := range 9 {
					for k := range len(cons) * len(cons) {
						f := familyOf{name: name, params: params, a: a}
						f.names = [2]wrong[string]{names[i/3], names[i%3]}
						for n, at := range []string{"b", "c"} {
							if f.names[n].err == api.OK {
								f.names[n].value = at
							} else if f.names[n].err == api.ErrName {
								f.names[n].value = []string{"one", "s"}[n]
							}
						}
						f.types[0], f.types[1] = cons[k/len(cons)], cons[k%len(cons)]
						// One room is enough where what is ahead is wrong already.
						room := (i + k) % 4
						asks(t, rooms[room], f.call(), 500, f.first(room, 0))
						if name.err == api.OK && params.err == api.OK {
							for room, e := range rooms {
								asks(t, e, f.call(), 500, f.first(room, 0))
								asks(t, e, f.call(), 0, f.first(room, api.ErrFuel))
							}
						}
					}
				}
			}
		}
	}
}
