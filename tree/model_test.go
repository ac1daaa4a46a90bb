package tree_test

import (
	"fmt"
	"math/rand"
	"slices"
	"sort"
	"testing"

	"vademecum/tree"
)

// model is a tree told another way: a sorted row of its keys, with their numbers beside them, copied for each change.
type model struct {
	keys []string
	nums []int
}

// with is the model with one more key.
func (m model) with(key string, n int) model {
	m = m.without(key)
	i := sort.SearchStrings(m.keys, key)
	return model{slices.Insert(m.keys, i, key), slices.Insert(m.nums, i, n)}
}

// without is a copy of the model, less one key.
func (m model) without(key string) model {
	m = model{slices.Clone(m.keys), slices.Clone(m.nums)}
	if i := sort.SearchStrings(m.keys, key); i < len(m.keys) && m.keys[i] == key {
		return model{slices.Delete(m.keys, i, i+1), slices.Delete(m.nums, i, i+1)}
	}
	return m
}

// get is what a key stands for.
func (m model) get(key string) (int, bool) {
	if i := sort.SearchStrings(m.keys, key); i < len(m.keys) && m.keys[i] == key {
		return m.nums[i], true
	}
	return 0, false
}

// agrees holds a tree against its model, at these keys and at its own.
func agrees(t *testing.T, what string, x *tree.Tree, m model, keys ...string) {
	t.Helper()
	if !slices.Equal(x.Keys(), m.keys) || x.Len() != len(m.keys) {
		t.Fatalf("%s: %d keys: %q, want %q", what, x.Len(), x.Keys(), m.keys)
	}
	for _, k := range slices.Concat(keys, m.keys) {
		n, ok := x.Get(k)
		if want, there := m.get(k); n != want || ok != there {
			t.Fatalf("%s: get %q: %d, %v; want %d, %v", what, k, n, ok, want, there)
		}
	}
	deepEnough(t, what, x)
}

// inAllOrders calls do with each order of the numbers below n.
func inAllOrders(n int, do func(order []int)) {
	order := make([]int, n)
	for i := range order {
		order[i] = i
	}
	var place func(k int)
	place = func(k int) {
		if k == n {
			do(order)
			return
		}
		for i := k; i < n; i++ {
			order[k], order[i] = order[i], order[k]
			place(k + 1)
			order[k], order[i] = order[i], order[k]
		}
	}
	place(0)
}

// Few keys told in every order there is, and each left out alone, and all left out in that order.
func TestP5_1AllOrders(t *testing.T) {
	for n := range 8 {
		inAllOrders(n, func(order []int) {
			what := fmt.Sprint(order)
			x, m := tree.New(), model{}
			for i, k := range order {
				x, m = x.With(key(k), i), m.with(key(k), i)
				deepEnough(t, what, x)
			}
			agrees(t, what, x, m, key(n))
			for k := range n {
				agrees(t, what, x.Without(key(k)), m.without(key(k)), key(k))
			}
			for k := range n {
				x, m = x.Without(key(k)), m.without(key(k))
				agrees(t, what, x, m)
			}
		})
	}
}

// Trees told in any order lose their keys in any other: few keys show best where one stays too deep.
func TestP5_1DeepOfShrinking(t *testing.T) {
	for seed := range 4000 {
		r := rand.New(rand.NewSource(int64(seed)))
		n := 6 + seed%20
		x := tree.New()
		for _, k := range r.Perm(n) {
			x = x.With(key(k), k)
		}
		for _, k := range r.Perm(n) {
			x = x.Without(key(k))
			deepEnough(t, fmt.Sprintf("seed %d, without %d", seed, k), x)
		}
	}
}

// Long rows of random calls, of few keys and of many, that grow and that shrink; old trees are gone on from, and all of them are looked at in the end.
func TestP5_1Model(t *testing.T) {
	for seed := range 40 {
		r := rand.New(rand.NewSource(int64(seed)))
		most := 1 + r.Intn(120)
		trees, models := []*tree.Tree{tree.New()}, []model{{}}
		for i := range 400 {
			from := len(trees) - 1
			if r.Intn(10) == 0 {
				from = r.Intn(len(trees))
			}
			x, m, k := trees[from], models[from], key(r.Intn(most))
			if grows := i%200 < 120; r.Intn(4) > 0 == grows {
				x, m = x.With(k, i), m.with(k, i)
			} else {
				x, m = x.Without(k), m.without(k)
			}
			agrees(t, fmt.Sprintf("seed %d, call %d", seed, i), x, m, k)
			trees, models = append(trees, x), append(models, m)
		}
		for i, x := range trees {
			agrees(t, fmt.Sprintf("seed %d, old tree %d", seed, i), x, models[i])
		}
	}
}
