package doc

import (
	"errors"
	"strconv"

	"vademecum/admit"
	"vademecum/api"
	"vademecum/env"
	"vademecum/infer"
	"vademecum/sent"
	"vademecum/space"
	"vademecum/syntax"
)

// do makes of a document what a sentence makes of it, and answers the sentence's text. Behind an error the document is good for nothing.
func (d *Doc) do(x api.Sentence, fuel int) (string, error) {
	switch x.Kind {
	case api.SAxiom, api.SDef, api.SFamily, api.SVar:
		return "", d.declare(x, fuel)
	case api.SSpace, api.SSection:
		return "", d.open(x)
	case api.SEnd:
		return "", d.end(x.Name)
	case api.SCheck:
		return d.check(x, fuel)
	case api.SPrint:
		return d.print(x.Name)
	}
	return "", fault{name: x.Name, what: "Kind " + strconv.Itoa(x.Kind) + " says nothing of a document", why: api.ErrForm}
}

// declared is the Env; a document that nothing was told has none.
func (d *Doc) declared() *env.Env {
	if d.env == nil {
		return env.New()
	}
	return d.env
}

// declare lets in what a sentence declares.
func (d *Doc) declare(x api.Sentence, fuel int) error {
	y, err := d.whole(x)
	if x.Kind == api.SVar && !d.isInSection() && !errors.Is(err, api.ErrForm) {
		// That is asked ahead of the names.
		return fault{name: x.Name, what: "is a variable of no section", why: api.ErrOpen}
	}
	if err != nil {
		return err
	}
	e := d.declared()
	switch y.Kind {
	case api.SDef:
		e, err = admit.Def(e, y.Name, y.A, y.B, fuel)
	case api.SFamily:
		e, err = d.family(y, fuel)
	case api.SVar:
		d.addVariable(y.Name)
		fallthrough
	default: // SAxiom
		e, err = admit.Axiom(e, y.Name, y.A, fuel)
	}
	d.env = e
	return err
}

// family is the Env with a family, which may need no variable.
func (d *Doc) family(y api.Sentence, fuel int) (*env.Env, error) {
	e, err := admit.Family(d.declared(), y.Name, y.N, y.A, y.Cons, fuel)
	if err != nil {
		return nil, err
	}
	if needs := d.needs(terms(y)); len(needs) > 0 {
		return nil, fault{name: y.Name, what: "needs the variable " + strconv.Quote(needs[0]), why: api.ErrPos}
	}
	return e, nil
}

// check tells the type of a term.
func (d *Doc) check(x api.Sentence, fuel int) (string, error) {
	y, err := d.whole(x)
	if err != nil {
		return "", err
	}
	a, _, err := infer.Infer(d.declared(), nil, y.A, fuel)
	if err != nil {
		return "", err
	}
	return syntax.Print(a), nil
}

// print tells the sentence that would declare what is there by a name.
func (d *Doc) print(name string) (string, error) {
	whole, _ := space.Find(d.declared(), d.opens, name)
	found, ok := d.declared().Find(whole)
	if !ok {
		// It isn't there, or is a recursor, which no sentence declares.
		return "", fault{name: name, what: "isn't declared", why: api.ErrName}
	}
	return sent.Print(d.sentence(found)), nil
}

// sentence is the sentence that would make a declaration.
func (d *Doc) sentence(of api.Decl) api.Sentence {
	x := api.Sentence{Kind: api.SAxiom, Name: of.Name, A: of.Type}
	switch of.Kind {
	case api.DDef:
		x.Kind, x.B = api.SDef, of.Value
	case api.DCon:
		of, _ = d.declared().Find(of.Of)
		fallthrough
	case api.DFamily:
		x = api.Sentence{Kind: api.SFamily, N: of.Family.Params, Name: of.Name, A: of.Type, Cons: of.Family.Cons}
	}
	return x
}
