package infer

import "vademecum/api"

// product tells the type of a product.
func (i *inference) product(p part) (*api.Term, error) {
	a := p.of(p.t.A)
	n, err := i.sort(a)
	if err != nil {
		return nil, err
	}
	m, err := i.sort(i.under(p, i.whole(a)))
	i.leave()
	if err != nil {
		return nil, err
	}
	return &api.Term{Kind: api.TSort, N: max(n, m)}, nil
}

// function tells the type of a function.
func (i *inference) function(p part) (*api.Term, error) {
	a := p.of(p.t.A)
	if _, err := i.sort(a); err != nil {
		return nil, err
	}
	whole := i.whole(a)
	b, err := i.infer(i.under(p, whole))
	i.leave()
	if err != nil {
		return nil, err
	}
	return &api.Term{Kind: api.TPi, A: whole, B: b}, nil
}

// let tells the type of a let.
func (i *inference) let(p part) (*api.Term, error) {
	a, value := p.of(p.t.A), p.of(p.t.B)
	if _, err := i.sort(a); err != nil {
		return nil, err
	}
	if err := i.check(value, i.whole(a)); err != nil {
		return nil, err
	}
	return i.infer(i.behind(p, i.whole(value)))
}
