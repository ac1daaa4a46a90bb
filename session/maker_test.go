package session_test

import (
	"fmt"
	"math/rand"
	"strings"

	"vademecum/api"
	"vademecum/past"
)

// maker makes random lines about what a past holds.
type maker struct {
	r *rand.Rand
	p *past.Past
}

func (k *maker) oneIn(n int) bool { return k.r.Intn(n) == 0 }

func (k *maker) oneOf(l ...string) string { return l[k.r.Intn(len(l))] }

// name is a name of a few, so that they meet.
func (k *maker) name() string { return k.oneOf("a", "b", "c", "d", "e", "f", "g", "h", "i", "k") }

// of is something whose type is printed so, if there is such a thing, said as it may be.
func (k *maker) of(typ string) (string, bool) {
	var l []string
	for _, d := range k.p.Now().Env().List() {
		_, text, err := k.p.Now().Do(api.Sentence{Kind: api.SCheck, A: &api.Term{Kind: api.TConst, Name: d.Name}}, enough)
		if err == nil && text == typ {
			l = append(l, d.Name)
		}
	}
	if len(l) == 0 {
		return "", false
	}
	name := l[k.r.Intn(len(l))]
	if i := strings.LastIndex(name, "."); i >= 0 && k.oneIn(2) {
		name = name[i+1:]
	}
	return name, true
}

// typ is the text of a type, more or less.
func (k *maker) typ() string {
	switch k.r.Intn(6) {
	case 0:
		return k.typ() + " -> " + k.typ()
	case 1:
		return "pi x : " + k.typ() + " , " + k.typ()
	case 2, 3:
		if a, ok := k.of("Type0"); ok {
			return a
		}
	}
	return "nat"
}

// value is the text of a number, more or less.
func (k *maker) value() string {
	switch k.r.Intn(6) {
	case 0:
		return "s ( " + k.value() + " )"
	case 1:
		return "let x : nat := " + k.value() + " in s x"
	case 2:
		return "nat.rec@0 ( fun n : nat => nat ) ( " + k.value() + " ) ( fun n : nat => fun m : nat => s m ) ( " + k.value() + " )"
	case 3, 4:
		if a, ok := k.of("nat"); ok {
			return a
		}
	}
	return "o"
}

// declared is the line of a declaration.
func (k *maker) declared() string {
	name := k.name()
	switch k.r.Intn(7) {
	case 0:
		return "family " + name + " 0 : Type0 { } ."
	case 1:
		return "family " + name + " 0 : Type0 { " + k.name() + " : " + name + " ; " + k.name() + " : " + k.typ() + " -> " + name + " -> " + name + " } ."
	case 2, 3:
		return "def " + name + " : nat := " + k.value() + " ."
	}
	return "axiom " + name + " : " + k.oneOf(k.typ(), "Type0", "nat -> Type0") + " ."
}

// variable is the line of a section's variable, or of what uses one.
func (k *maker) variable() string {
	var types []string
	for _, o := range k.p.Now().Opens() {
		for _, v := range o.Vars {
			if v.Type.Kind == api.TSort {
				types = append(types, v.Name)
			}
		}
	}
	if len(types) == 0 || k.oneIn(3) {
		return "var " + k.name() + " : " + k.oneOf("Type0", k.typ()) + " ."
	}
	a := k.oneOf(types...)
	return k.oneOf("def "+k.name()+" : "+a+" -> "+a+" := fun x : "+a+" => x .", "axiom "+k.name()+" : "+a+" -> "+k.typ()+" .", "var "+k.name()+" : "+a+" .")
}

// back is the line that goes back, more or less.
func (k *maker) back() string {
	states := k.p.States()
	switch k.r.Intn(6) {
	case 0, 1:
		return fmt.Sprintf("undo %d .", k.r.Intn(4))
	case 2:
		return fmt.Sprintf("back %d .", states[k.r.Intn(len(states))])
	case 3:
		return fmt.Sprintf("back %d .", max(k.p.State()-k.r.Intn(6)+2, 0))
	case 4:
		return "restore " + k.oneOf(append(k.p.Marks(), "m0")...) + " ."
	}
	return "mark " + k.oneOf("a", "m", "m0", "m1") + " ."
}

// line is a line that is often accepted.
func (k *maker) line() string {
	opens := k.p.Now().Opens()
	last := k.name()
	if len(opens) > 0 && !k.oneIn(8) {
		last = opens[len(opens)-1].Name
	}
	n := k.r.Intn(60)
	if len(opens) > 0 && opens[len(opens)-1].Section && k.oneIn(3) {
		n = 28
	}
	switch {
	case k.p.Now().Env().Len() == 0 && !k.oneIn(5):
		return nats
	case n < 20:
		return k.declared()
	case n < 25:
		return k.oneOf("space ", "section ") + k.oneOf("a", "b", "q") + " ."
	case n < 30:
		return k.variable()
	case n < 37:
		return "end " + last + " ."
	case n < 48:
		return k.back()
	case n < 53:
		return "commit ."
	case n < 55:
		return "mark m" + fmt.Sprint(k.r.Intn(4)) + " ." + strings.Repeat(" ", k.r.Intn(200))
	}
	return k.oneOf("check "+k.value()+" .", "print "+k.name()+" .", "print nat .", "no sentence")
}

// crashed is what a crash keeps of loose Writes, and which one is torn.
func (k *maker) crashed(loose int) ([]bool, int) {
	keep := make([]bool, loose)
	all, most := k.oneIn(3), k.oneIn(2)
	for i := range keep {
		keep[i] = all || most && !k.oneIn(loose+1) || !most && k.oneIn(2)
	}
	return keep, k.r.Intn(loose+2) - 1
}
