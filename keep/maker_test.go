package keep_test

import (
	"fmt"
	"maps"
	"math/rand"
	"slices"
	"strings"
	"testing"

	"vademecum/api"
	"vademecum/doc"
)

// maker makes random lines about what a model holds.
type maker struct {
	r *rand.Rand
	m *model
}

func (k *maker) oneIn(n int) bool { return k.r.Intn(n) == 0 }

func (k *maker) oneOf(l ...string) string { return l[k.r.Intn(len(l))] }

// name is a name of a few, so that they meet.
func (k *maker) name() string {
	name := k.oneOf("a", "b", "c", "d", "e", "f", "g", "h", "i", "k")
	if k.oneIn(10) {
		name = k.oneOf("a", "b", "q") + "." + name
	}
	return name
}

// of is something whose type is printed so, if there is such a thing, said as it may be.
func (k *maker) of(typ string) (string, bool) {
	var l []string
	for _, d := range k.m.now().Env().List() {
		_, text, err := k.m.now().Do(api.Sentence{Kind: api.SCheck, A: &api.Term{Kind: api.TConst, Name: d.Name}}, enough)
		if err == nil && text == typ {
			l = append(l, d.Name)
		}
	}
	if len(l) == 0 {
		return "", false
	}
	name := l[k.r.Intn(len(l))]
	if i := strings.LastIndex(name, "."); i >= 0 && k.oneIn(2) {
		name = name[i+1:]
	}
	return name, true
}

// typ is the text of a type, more or less.
func (k *maker) typ() string {
	switch k.r.Intn(8) {
	case 0:
		return k.typ() + " -> " + k.typ()
	case 1:
		return "pi x : " + k.typ() + " , " + k.typ()
	case 2:
		if p, ok := k.of("pi _0 : nat , Type0"); ok {
			return p + " ( " + k.value(0) + " )"
		}
	case 3:
		if p, ok := k.of("pi _0 : Type0 , Type0"); ok {
			return p + " " + k.oneOf("nat", "( "+k.typ()+" )")
		}
	case 4, 5:
		if a, ok := k.of("Type0"); ok {
			return a
		}
	}
	return "nat"
}

// value is the text of a number, more or less, in so many parts that it is in.
func (k *maker) value(deep int) string {
	n := k.r.Intn(9)
	if deep > 4 {
		n += 6
	}
	switch n {
	case 0:
		return "s ( " + k.value(deep+1) + " )"
	case 1:
		return "let x : nat := " + k.value(deep+1) + " in " + k.oneOf("x", "s x")
	case 2:
		return "( fun x : nat => " + k.oneOf("x", "s x", k.value(deep+1)) + " ) ( " + k.value(deep+1) + " )"
	case 3:
		return "nat.rec@0 ( fun n : nat => nat ) ( " + k.value(deep+1) + " ) ( fun n : nat => fun m : nat => s m ) ( " + k.value(deep+1) + " )"
	case 4, 5, 6:
		if a, ok := k.of("nat"); ok {
			return a
		}
	case 7:
		if f, ok := k.of("pi _0 : nat , nat"); ok {
			return f + " ( " + k.value(deep+1) + " )"
		}
	}
	return "o"
}

// family is the line of a family.
func (k *maker) family() string {
	f, c, e := k.name(), k.name(), k.name()
	switch k.r.Intn(5) {
	case 0:
		return "family " + f + " 0 : " + k.oneOf("Type0", "Type3") + " { } ."
	case 1:
		return "family " + f + " 1 : Type0 -> Type0 { " + c + " : pi A : Type0 , " + f + " A ; " + e + " : pi A : Type0 , A -> " + f + " A -> " + f + " A } ."
	case 2:
		return "family " + f + " 0 : nat -> Type0 { " + c + " : pi n : nat , " + f + " ( s n ) } ."
	case 3:
		return "family " + f + " 0 : Type0 { " + c + " : ( nat -> " + f + " ) -> " + f + " } ."
	}
	return "family " + f + " 0 : Type0 { " + c + " : " + f + " ; " + e + " : " + k.typ() + " -> " + f + " -> " + f + " } ."
}

// variable is the line of a section's variable, or of what uses some.
func (k *maker) variable() string {
	var types []string
	for _, o := range k.m.now().Opens() {
		for _, v := range o.Vars {
			if v.Type.Kind == api.TSort {
				types = append(types, v.Name)
			}
		}
	}
	if len(types) == 0 || k.oneIn(3) {
		return "var " + k.name() + " : " + k.oneOf("Type0", "nat -> Type0", "Type0 -> Type0", k.typ()) + " ."
	}
	a := k.oneOf(types...)
	switch k.r.Intn(4) {
	case 0:
		return "def " + k.name() + " : " + a + " -> " + a + " := fun x : " + a + " => x ."
	case 1:
		return "def " + k.name() + " : nat -> Type0 := nat.rec@1 ( fun n : nat => Type0 ) " + a + " ( fun n : nat => fun B : Type0 => B -> " + a + " ) ."
	case 2:
		return "axiom " + k.name() + " : " + a + " -> " + k.typ() + " ."
	}
	return "var " + k.name() + " : " + a + " ."
}

// state is the line that goes back, more or less.
func (k *maker) state() string {
	switch k.r.Intn(6) {
	case 0:
		return fmt.Sprintf("undo %d .", k.r.Intn(4))
	case 1:
		return fmt.Sprintf("back %d .", max(k.m.row[k.r.Intn(len(k.m.row))], 0))
	case 2:
		names := append(slices.Sorted(maps.Keys(k.m.marks)), "m0")
		return "restore " + k.oneOf(names...) + " ."
	}
	return "mark " + k.oneOf("a", "m", "m0", "m1") + " ."
}

// line is a line that is often accepted.
func (k *maker) line() string {
	opens := k.m.now().Opens()
	last := k.name()
	inSection := len(opens) > 0 && opens[len(opens)-1].Section
	if len(opens) > 0 && !k.oneIn(6) {
		last = opens[len(opens)-1].Name
	}
	n := k.r.Intn(60)
	if inSection && k.oneIn(3) {
		n = 30
	}
	switch {
	case k.m.now().Env().Len() == 0 && !k.oneIn(5):
		return nats
	case n < 9:
		return "axiom " + k.name() + " : " + k.oneOf(k.typ(), "Type0", "nat -> Type0", "Type0 -> Type0") + " ."
	case n < 17:
		return "def " + k.name() + " : nat := " + k.value(0) + " ."
	case n < 24:
		return k.family()
	case n < 27:
		return "space " + k.oneOf("a", "b", "q") + " ."
	case n < 30:
		return "section " + k.oneOf("a", "b") + " ."
	case n < 34:
		return k.variable()
	case n < 44:
		return "end " + last + " ."
	case n < 53:
		return k.state()
	case n < 55:
		return "commit ."
	}
	return k.oneOf("check "+k.value(0)+" .", "print "+k.name()+" .", "print nat .")
}

// ended is a random document at which nothing is open.
func ended(t *testing.T, seed int64, n int) *doc.Doc {
	t.Helper()
	k := &maker{r: rand.New(rand.NewSource(seed)), m: newModel(enough)}
	for range n {
		k.m.say(k.line())
	}
	for {
		opens := k.m.now().Opens()
		if len(opens) == 0 {
			return k.m.now()
		}
		if !k.m.say("end " + opens[len(opens)-1].Name + " .") {
			t.Fatalf("seed %d: %v can't be ended", seed, opens[len(opens)-1])
		}
	}
}
