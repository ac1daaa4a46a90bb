package env_test

import (
	"fmt"
	"math/rand"
	"regexp"
	"slices"
	"testing"

	"vademecum/api"
	"vademecum/env"
	"vademecum/term"
)

var aName = regexp.MustCompile(`^[a-zA-Z][a-zA-Z0-9_]*(\.[a-zA-Z][a-zA-Z0-9_]*)*$`)

var aRec = regexp.MustCompile(`.\.rec$`)

// model is an Env told another way: a row of declarations, gone through for each name.
type model []api.Decl

// add is the model with one more, or the error's number.
func (m model) add(d api.Decl) (model, api.Errno) {
	switch {
	case len(d.Name) > 24 || !aName.MatchString(d.Name) || aRec.MatchString(d.Name) || !term.Is(d.Type):
		return nil, 10
	case slices.ContainsFunc(m, func(other api.Decl) bool { return other.Name == d.Name }):
		return nil, 15
	case len(m) >= 200:
		return nil, 14
	}
	return append(slices.Clone(m), d), 0
}

// random is a declaration of a name that may be there already, and of a type that may be none.
func random(r *rand.Rand, names int) api.Decl {
	d := api.Decl{Kind: r.Intn(5), Name: fmt.Sprint("n", r.Intn(names)), Type: randomTerm(r, 3)}
	switch r.Intn(24) {
	case 0:
		d.Name += ".rec"
	case 1:
		d.Name = []string{"", "1", "a b", ".", "rec", long(24), long(25)}[r.Intn(7)]
	case 2:
		d.Type = []*api.Term{nil, sort(10), app(nil, nil), chain(3001)}[r.Intn(4)]
	}
	if r.Intn(2) == 0 {
		d.Value = randomTerm(r, 4)
	}
	for range r.Intn(4) {
		d.Family.Cons = append(d.Family.Cons, api.Con{Name: fmt.Sprint("c", r.Intn(9)), Type: randomTerm(r, 2)})
	}
	return d
}

// randomTerm is a term of so many nodes in one another at most.
func randomTerm(r *rand.Rand, deep int) *api.Term {
	if deep == 0 || r.Intn(4) == 0 {
		return []*api.Term{sort(r.Intn(10)), variable(r.Intn(3)), constant("n1")}[r.Intn(3)]
	}
	a, b := randomTerm(r, deep-1), randomTerm(r, deep-1)
	return []*api.Term{pi(a, b), lam(a, b), app(a, b), let(a, b, b)}[r.Intn(4)]
}

// Envs that come from one another in any way, each held against its model, also once others came from it.
func TestP11_2Random(t *testing.T) {
	r := rand.New(rand.NewSource(11))
	for range 12 {
		names := []int{3, 40, 1000}[r.Intn(3)]
		envs, models := []*env.Env{env.New()}, []model{nil}
		for range 400 {
			at := len(envs) - 1 - r.Intn(min(len(envs), 1+r.Intn(40)))
			e, m := envs[at], models[at]
			if r.Intn(10) == 0 {
				n := r.Intn(len(m)+3) - 1
				e, m = e.Cut(n), m[:min(max(n, 0), len(m))]
			} else if !step(t, r, names, &e, &m) {
				continue
			}
			envs, models = append(envs, e), append(models, m)
		}
		for i, e := range envs {
			if e.Len() != len(models[i]) || tellAll(e.List()) != tellAll(models[i]) {
				t.Fatalf("%d: %s, want %s", i, tellAll(e.List()), tellAll(models[i]))
			}
			for n := range min(names, 50) {
				name := fmt.Sprint("n", n)
				k := slices.IndexFunc(models[i], func(d api.Decl) bool { return d.Name == name })
				d, ok := e.Find(name)
				if ok != (k >= 0) || ok && tell(d) != tell(models[i][k]) || !ok && tell(d) != tell(api.Decl{}) {
					t.Fatalf("%d: find %s: %v, %s", i, name, ok, tell(d))
				}
			}
		}
	}
}

// step adds one to an Env and to its model; false, if it is refused.
func step(t *testing.T, r *rand.Rand, names int, e **env.Env, m *model) bool {
	t.Helper()
	d := random(r, names)
	next, err := (*e).Add(d)
	more, want := m.add(d)
	if want != 0 {
		refused(t, *e, d, want)
		return false
	}
	if err != nil || next == nil {
		t.Fatalf("add %s: %v", tell(d), err)
	}
	*e, *m = next, more
	return true
}

// Any two declarations are the same just where their texts are.
func TestP11_1SameRandom(t *testing.T) {
	r := rand.New(rand.NewSource(12))
	same := 0
	for range 10000 {
		seed := r.Int63()
		a := random(rand.New(rand.NewSource(seed)), 2)
		b := random(rand.New(rand.NewSource(seed+int64(r.Intn(2)))), 2)
		if node := randomNode(r, b); node != nil && r.Intn(2) == 0 {
			node.N++
		}
		want := tell(a) == tell(b)
		if env.Same(a, b) != want || env.Same(b, a) != want {
			t.Fatalf("%s, %s: %v", tell(a), tell(b), !want)
		}
		if want {
			same++
		}
	}
	if same < 1000 || same > 9000 {
		t.Errorf("%d pairs are the same", same)
	}
}

// randomNode is one of the topmost nodes of a declaration's terms, or none.
func randomNode(r *rand.Rand, d api.Decl) *api.Term {
	l := terms(d)
	return l[r.Intn(len(l))]
}
