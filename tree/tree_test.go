package tree_test

import (
	"fmt"
	"math"
	"slices"
	"sync"
	"testing"

	"vademecum/tree"
)

// holds tells all that a tree has against what it should have; keys that it shouldn't have are asked for too.
func holds(t *testing.T, what string, x *tree.Tree, want map[string]int, lacks ...string) {
	t.Helper()
	var keys []string
	for k := range want {
		keys = append(keys, k)
	}
	slices.Sort(keys)
	if got := x.Keys(); !slices.Equal(got, keys) {
		t.Errorf("%s: keys %q, want %q", what, got, keys)
	}
	if x.Len() != len(want) {
		t.Errorf("%s: len %d, want %d", what, x.Len(), len(want))
	}
	for k, n := range want {
		if got, ok := x.Get(k); got != n || !ok {
			t.Errorf("%s: get %q: %d, %v; want %d", what, k, got, ok, n)
		}
	}
	for _, k := range lacks {
		if got, ok := x.Get(k); got != 0 || ok {
			t.Errorf("%s: get %q: %d, %v; want none", what, k, got, ok)
		}
	}
	deepEnough(t, what, x)
}

// least tells how many keys a tree that is so deep has at least: the chapter's row.
func least(deep int) int {
	less, n := 0, 0
	for range deep {
		less, n = n, less+n+1
	}
	return n
}

// deepEnough holds how deep a tree is against how many keys it has: no deeper than the chapter's row lets it, and no less than that many keys need.
func deepEnough(t *testing.T, what string, x *tree.Tree) {
	t.Helper()
	deep, n := x.Deep(), x.Len()
	if deep < 0 || deep > 40 || n < least(deep) || n > 1<<deep-1 {
		t.Fatalf("%s: %d deep with %d keys", what, deep, n)
	}
}

// key is a key of four digits, so that keys rise as their numbers do.
func key(i int) string { return fmt.Sprintf("%04d", i) }

// of is a tree that is told these keys one after the other, each with how many came ahead of it.
func of(keys ...string) *tree.Tree {
	x := tree.New()
	for i, k := range keys {
		x = x.With(k, i)
	}
	return x
}

func TestP5_1None(t *testing.T) {
	holds(t, "new", tree.New(), nil, "", "a", "\x00")
	holds(t, "none left", tree.New().With("a", 1).Without("a"), nil, "", "a")
	holds(t, "nothing to leave out", tree.New().Without("a").Without(""), nil, "", "a")
	holds(t, "one that nothing was told", new(tree.Tree), nil, "", "a")
	holds(t, "told something first", new(tree.Tree).With("a", 1), map[string]int{"a": 1}, "", "b")
	if d := tree.New().Deep(); d != 0 {
		t.Errorf("deep of none: %d", d)
	}
}

func TestP5_1Get(t *testing.T) {
	x := of("b", "a", "c")
	holds(t, "three", x, map[string]int{"b": 0, "a": 1, "c": 2}, "", "aa", "A", "d", "b\x00", "bb")
	holds(t, "one anew", x.With("b", 9), map[string]int{"b": 9, "a": 1, "c": 2}, "")
	holds(t, "one as it was", x.With("a", 1), map[string]int{"b": 0, "a": 1, "c": 2}, "")
	holds(t, "without the least", x.Without("a"), map[string]int{"b": 0, "c": 2}, "a")
	holds(t, "without the middle", x.Without("b"), map[string]int{"a": 1, "c": 2}, "b")
	holds(t, "without the greatest", x.Without("c"), map[string]int{"a": 1, "b": 0}, "c")
	holds(t, "without what isn't there", x.Without("bb"), map[string]int{"b": 0, "a": 1, "c": 2}, "bb")
	holds(t, "out and in", x.Without("b").With("b", 5), map[string]int{"b": 5, "a": 1, "c": 2})
}

func TestP5_1AnyKeyAndNumber(t *testing.T) {
	want := map[string]int{
		"": math.MinInt, "\x00": math.MaxInt, "\x00\x00": 0, " ": -1, "a": 1, "ab": 2, "b": 3, "é": 4,
		"\x7f": 5, "\x80": 6, "\xff": 7, "\xff\xff": 8, "Z": 9, "世": 10, "a\x00": 11, "a\xff": 12,
	}
	x := tree.New()
	for k, n := range want {
		x = x.With(k, n)
	}
	holds(t, "any keys", x, want, "c", "\xfe", "\x00\x00\x00", "\xc3")
	for k := range want {
		rest := map[string]int{}
		for other, n := range want {
			if other != k {
				rest[other] = n
			}
		}
		holds(t, fmt.Sprintf("without %q", k), x.Without(k), rest, k)
	}
}

// A number that is zero is there all the same.
func TestP5_1ZeroIsThere(t *testing.T) {
	if n, ok := tree.New().With("a", 0).Get("a"); n != 0 || !ok {
		t.Errorf("get: %d, %v", n, ok)
	}
}

// The keys rise by their bytes, whatever runes these are.
func TestP5_1KeysRise(t *testing.T) {
	x := of("b", "\xff", "é", "a\xff", "", "ab", "a", "B", "\x00", "世", "a\x00")
	want := []string{"", "\x00", "B", "a", "a\x00", "ab", "a\xff", "b", "é", "世", "\xff"}
	if got := x.Keys(); !slices.Equal(got, want) {
		t.Errorf("keys %q, want %q", got, want)
	}
}

func TestP5_1DeepOfFew(t *testing.T) {
	for i, want := range []int{0, 1, 2, 2} {
		var keys []string
		for k := range i {
			keys = append(keys, key(k))
		}
		if got := of(keys...).Deep(); got != want {
			t.Errorf("deep of %d keys: %d, want %d", i, got, want)
		}
		slices.Reverse(keys)
		if got := of(keys...).Deep(); got != want {
			t.Errorf("deep of %d falling keys: %d, want %d", i, got, want)
		}
	}
	for _, x := range []*tree.Tree{of("c", "a", "b"), of("a", "c", "b")} {
		if x.Deep() != 2 {
			t.Errorf("deep of %q, told from without: %d, want 2", x.Keys(), x.Deep())
		}
	}
}

// Keys that rise, that fall, that come from both ends, that come from the middle.
func TestP5_1DeepOfRows(t *testing.T) {
	const n = 3000
	rows := map[string]func(i int) int{
		"rising":            func(i int) int { return i },
		"falling":           func(i int) int { return n - 1 - i },
		"from both ends":    func(i int) int { return i/2 + i%2*(n-1-2*(i/2)) },
		"from the middle":   func(i int) int { return n/2 + (i+1)/2*(1-2*(i%2)) },
		"by leaps of seven": func(i int) int { return i * 7 % n },
	}
	for name, at := range rows {
		x := tree.New()
		for i := range n {
			x = x.With(key(at(i)), i)
			deepEnough(t, name, x)
		}
		for i := range n {
			x = x.Without(key(at(i)))
			deepEnough(t, name+", out again", x)
		}
		if x.Len() != 0 || x.Deep() != 0 {
			t.Errorf("%s: %d keys left, %d deep", name, x.Len(), x.Deep())
		}
	}
}

// thin lists the keys from a number on of a tree that is so deep, and has as few keys as it may; the deeper side is the greater one or the lesser one. Told in this order the tree turns nothing over.
func thin(from, deep int, more bool) []string {
	type part struct{ from, deep int }
	var keys []string
	for todo := []part{{from, deep}}; len(todo) > 0; todo = todo[1:] {
		p := todo[0]
		if p.deep <= 0 {
			continue
		}
		left, right := p.deep-2, p.deep-1
		if !more {
			left, right = right, left
		}
		top := p.from + least(left)
		keys = append(keys, key(top))
		todo = append(todo, part{p.from, left}, part{top + 1, right})
	}
	return keys
}

// A tree with as few keys as it may have loses one: what is too deep then must be made less deep, all the way up.
func TestP5_1DeepOfThin(t *testing.T) {
	for deep := 1; deep < 11; deep++ {
		for _, more := range []bool{false, true} {
			keys := thin(0, deep, more)
			x := of(keys...)
			if x.Len() != least(deep) || x.Deep() != deep {
				t.Fatalf("thin: %d keys, %d deep; want %d, %d", x.Len(), x.Deep(), least(deep), deep)
			}
			for _, k := range keys {
				less := x.Without(k)
				deepEnough(t, "thin without "+k, less)
				if less.Len() != x.Len()-1 || slices.Contains(less.Keys(), k) {
					t.Errorf("thin without %s: %q", k, less.Keys())
				}
			}
			for i := range keys {
				x = x.Without(key(i))
				deepEnough(t, "thin from its front", x)
			}
		}
	}
}

func TestP5_2NothingChanges(t *testing.T) {
	none := tree.New()
	a := none.With("a", 1)
	ab := a.With("b", 2)
	other := ab.With("a", 7)
	b := other.Without("a")
	same := b.Without("a")
	again := b.With("a", 9)
	holds(t, "none", none, nil, "a", "b")
	holds(t, "a", a, map[string]int{"a": 1}, "b")
	holds(t, "ab", ab, map[string]int{"a": 1, "b": 2})
	holds(t, "other", other, map[string]int{"a": 7, "b": 2})
	holds(t, "b", b, map[string]int{"b": 2}, "a")
	holds(t, "same", same, map[string]int{"b": 2}, "a")
	holds(t, "again", again, map[string]int{"a": 9, "b": 2})
}

// Each call tells another tree, also where nothing is to be done.
func TestP5_2AnotherTree(t *testing.T) {
	x := of("a", "b")
	if y := x.With("a", 0); y == x {
		t.Error("with what is there: the same tree")
	}
	if y := x.Without("c"); y == x {
		t.Error("without what isn't there: the same tree")
	}
	if tree.New() == tree.New() || x.Without("a").Without("b") == nil {
		t.Error("none: the same tree, or nil")
	}
}

// What is done with the keys that were answered, their spare room included, touches neither the tree nor other answers.
func TestP5_2KeysAreNew(t *testing.T) {
	for n := range 20 {
		var want []string
		for i := range n {
			want = append(want, key(i))
		}
		x := of(want...)
		first, second := x.Keys(), x.Keys()
		for i := range first {
			first[i] = "spoilt"
		}
		first = append(first, "more")
		for room := first[len(first):cap(first)]; len(room) > 0; room = room[1:] {
			room[0] = "spoilt"
		}
		if !slices.Equal(second, want) || !slices.Equal(x.Keys(), want) {
			t.Errorf("%d keys: %q and %q", n, second, x.Keys())
		}
	}
}

// To keep what was costs nothing, and another tree costs the way to its key: not all the keys.
func TestP5_2CostsOneWay(t *testing.T) {
	x := tree.New()
	for i := range 20000 {
		x = x.With(key(i), i)
	}
	for what, call := range map[string]func(){
		"with another":           func() { x.With("0500x", 1) },
		"with one anew":          func() { x.With("0500", 1) },
		"without one":            func() { x.Without("0500") },
		"without the least":      func() { x.Without("0000") },
		"without the top":        func() { x.Without("8191") },
		"without what isn't it":  func() { x.Without("0500x") },
		"with, without, another": func() { x.With("x", 1).Without("x").With("y", 2) },
	} {
		if n := testing.AllocsPerRun(10, call); n > 100 {
			t.Errorf("%s: %v pieces of memory", what, n)
		}
	}
}

// All of many trees that come from one another stay, each as it was.
func TestP5_2AllStay(t *testing.T) {
	const n = 1500
	row := []*tree.Tree{tree.New()}
	for i := range n {
		row = append(row, row[i].With(key(i*7%n), i))
	}
	for i := range n {
		row = append(row, row[n+i].Without(key(i*11%n)))
	}
	for i, x := range row {
		want := min(i, 2*n-i)
		if x.Len() != want || len(x.Keys()) != want {
			t.Fatalf("tree %d: %d, %d keys, want %d", i, x.Len(), len(x.Keys()), want)
		}
		if i == 0 {
			continue
		}
		at, there := key((i-1)*7%n), i <= n
		if !there {
			at = key((i - 1 - n) * 11 % n)
		}
		if _, ok := x.Get(at); ok != there {
			t.Fatalf("tree %d: %s: %v", i, at, ok)
		}
		if _, ok := row[i-1].Get(at); ok == there {
			t.Fatalf("tree %d, ahead of it: %s: %v", i, at, ok)
		}
	}
}

// One tree may be asked, and others be made of it, by several at once.
func TestP5_2SeveralAtOnce(t *testing.T) {
	x := of(thin(0, 8, true)...)
	want := x.Keys()
	var all sync.WaitGroup
	for i := range 8 {
		all.Go(func() {
			y := x
			for k := range 100 {
				y = y.With(key(k*8+i), k).Without(key(k))
				x.Get(key(k))
			}
			if !slices.Equal(x.Keys(), want) {
				t.Errorf("worker %d: %q", i, x.Keys())
			}
		})
	}
	all.Wait()
	if !slices.Equal(x.Keys(), want) {
		t.Errorf("behind all: %q", x.Keys())
	}
}

func Example() {
	x := tree.New().With("b", 2).With("a", 1)
	y := x.With("c", 3).Without("a")
	n, ok := x.Get("a")
	fmt.Println(x.Keys(), x.Len(), x.Deep(), n, ok)
	n, ok = y.Get("a")
	fmt.Println(y.Keys(), y.Len(), y.Deep(), n, ok)
	fmt.Println(tree.New().Keys())
	// Output:
	// [a b] 2 2 1 true
	// [b c] 2 2 0 false
	// []
}
