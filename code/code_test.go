package code_test

import (
	"errors"
	"fmt"
	"math"
	"strings"
	"sync"
	"testing"

	"vademecum/api"
	"vademecum/code"
	"vademecum/term"
)

func sort(n int) *api.Term { return &api.Term{Kind: api.TSort, N: n} }

func variable(n int) *api.Term { return &api.Term{Kind: api.TVar, N: n} }

func constant(name string) *api.Term { return &api.Term{Kind: api.TConst, Name: name} }

func rec(name string, n int) *api.Term { return &api.Term{Kind: api.TConst, Name: name, N: n} }

func pi(a, b *api.Term) *api.Term { return &api.Term{Kind: api.TPi, A: a, B: b} }

func lam(a, b *api.Term) *api.Term { return &api.Term{Kind: api.TLam, A: a, B: b} }

func app(a, b *api.Term) *api.Term { return &api.Term{Kind: api.TApp, A: a, B: b} }

func let(a, b, c *api.Term) *api.Term { return &api.Term{Kind: api.TLet, A: a, B: b, C: c} }

// long is a name of so many bytes.
func long(n int) string { return strings.Repeat("a", n) }

// applied is a term with so many applications around it, nested to the left or to the right.
func applied(t *api.Term, times int, right bool) *api.Term {
	for range times {
		if right {
			t = app(sort(0), t)
		} else {
			t = app(t, sort(0))
		}
	}
	return t
}

// tells whether an error tells a number, by errors.Is and by errors.As.
func tells(err error, want api.Errno) bool {
	if want == api.OK {
		return err == nil
	}
	var n api.Errno
	return errors.Is(err, want) && errors.As(err, &n) && n == want
}

// start is the beginning of a text that may be long.
func start(s string) string { return fmt.Sprintf("%d bytes, %.60q", len(s), s) }

// reads holds one Read against what it should answer.
func reads(t *testing.T, s string, want *api.Term, rest string, why api.Errno) {
	t.Helper()
	got, gotRest, err := code.Read(s)
	if !term.Same(got, want) || gotRest != rest {
		t.Errorf("read %s: %d nodes, %s; want %d nodes, %s", start(s), term.Size(got), start(gotRest), term.Size(want), start(rest))
	}
	if !tells(err, why) {
		t.Errorf("read %s: %v, want %v", start(s), err, why)
	}
}

// refused holds one Read against an error.
func refused(t *testing.T, s string, why api.Errno) {
	t.Helper()
	reads(t, s, nil, s, why)
}

// told are terms, each with its bytes.
func told() []struct {
	t *api.Term
	s string
} {
	return []struct {
		t *api.Term
		s string
	}{
		{sort(0), "\x01\x00"},
		{sort(9), "\x01\x09"},
		{variable(0), "\x02\x00"},
		{variable(127), "\x02\x7f"},
		{variable(128), "\x02\x80\x01"},
		{variable(16384), "\x02\x80\x80\x01"},
		{variable(100000), "\x02\xa0\x8d\x06"},
		{constant("a"), "\x03\x01a\x00"},
		{constant("nat.succ"), "\x03\x08nat.succ\x00"},
		{constant("Type"), "\x03\x04Type\x00"},
		{constant(long(24)), "\x03\x18" + long(24) + "\x00"},
		{rec("nat.rec", 0), "\x03\x07nat.rec\x00"},
		{rec("nat.rec", 9), "\x03\x07nat.rec\x09"},
		{rec(long(20)+".rec", 1), "\x03\x18" + long(20) + ".rec\x01"},
		{pi(sort(1), variable(2)), "\x04\x01\x01\x02\x02"},
		{lam(sort(1), variable(2)), "\x05\x01\x01\x02\x02"},
		{app(sort(1), variable(2)), "\x06\x01\x01\x02\x02"},
		{let(sort(1), variable(2), constant("c")), "\x07\x01\x01\x02\x02\x03\x01c\x00"},
		{app(app(sort(1), sort(2)), sort(3)), "\x06\x06\x01\x01\x01\x02\x01\x03"},
		{app(sort(1), app(sort(2), sort(3))), "\x06\x01\x01\x06\x01\x02\x01\x03"},
		{let(pi(sort(1), sort(2)), lam(sort(3), sort(4)), app(sort(5), sort(6))), "\x07\x04\x01\x01\x01\x02\x05\x01\x03\x01\x04\x06\x01\x05\x01\x06"},
		{pi(rec("a.rec", 3), let(variable(0), constant("b"), variable(1))), "\x04\x03\x05a.rec\x03\x07\x02\x00\x03\x01b\x00\x02\x01"},
	}
}

func TestP8_1Bytes(t *testing.T) {
	for i, row := range told() {
		if got := code.Bytes(row.t); got != row.s {
			t.Errorf("row %d: %q, want %q", i, got, row.s)
		}
	}
}

func TestP8_1Read(t *testing.T) {
	for _, row := range told() {
		for _, behind := range []string{"", "\x00", "\x01\x00", "\xff", "\x08", "text", long(3000), strings.Repeat("\x06", 5000)} {
			reads(t, row.s+behind, row.t, behind, api.OK)
		}
	}
}

// wrong are terms that aren't.
func wrong() []*api.Term {
	a, round := constant("a"), app(nil, sort(0))
	round.A = round
	shared := sort(0)
	for range 60 {
		shared = app(shared, shared)
	}
	return []*api.Term{
		nil, {}, {Kind: -1}, {Kind: 8}, {Kind: 129}, {Kind: math.MaxInt}, {Kind: math.MinInt},
		sort(-1), sort(10), sort(math.MinInt), variable(-1), variable(100001), variable(math.MaxInt),
		constant(""), constant("1"), constant("a."), constant(long(25)), constant("fun"), constant("in"), constant("Type0"),
		rec("a", 1), rec("a", -1), rec("a.rec", -1), rec("a.rec", 10),
		{Kind: api.TSort, Name: "a"}, {Kind: api.TVar, A: a}, {Kind: api.TConst, Name: "a", B: a}, {Kind: api.TPi, A: a, B: a, C: a},
		{Kind: api.TLam, N: 1, A: a, B: a}, {Kind: api.TApp, Name: "a", A: a, B: a},
		pi(nil, a), lam(a, nil), app(nil, nil), let(a, a, nil), let(nil, a, a),
		round, shared,
	}
}

func TestP8_1BytesOfNone(t *testing.T) {
	for i, x := range wrong() {
		for k, y := range []*api.Term{x, app(x, sort(0)), lam(sort(0), x), let(sort(0), sort(0), x), app(sort(0), pi(x, sort(0)))} {
			if got := code.Bytes(y); got != "" {
				t.Errorf("row %d, %d: %s", i, k, start(got))
			}
		}
	}
}

func TestP8_1ReadRefuses(t *testing.T) {
	for _, row := range []struct {
		s    string
		want api.Errno
	}{
		// Bytes lack.
		{"", api.ErrShort}, {"\x80", api.ErrShort}, {"\x01", api.ErrShort}, {"\x02", api.ErrShort}, {"\x02\x80", api.ErrShort},
		{"\x03", api.ErrShort}, {"\x03\x80", api.ErrShort}, {"\x03\x01", api.ErrShort}, {"\x03\x01a", api.ErrShort}, {"\x03\x18" + long(23), api.ErrShort},
		{"\x04", api.ErrShort}, {"\x05\x01\x00", api.ErrShort}, {"\x06\x01\x00\x01", api.ErrShort}, {"\x07\x01\x00\x01\x00", api.ErrShort},
		// No number, in each place of one.
		{"\x80\x00", api.ErrForm}, {"\x81\x00\x00", api.ErrForm}, {"\x01\x80\x00", api.ErrForm}, {"\x02\x81\x80\x00", api.ErrForm},
		{"\x03\x81\x00a\x00", api.ErrForm}, {"\x03\x01a\x80\x00", api.ErrForm}, {strings.Repeat("\xff", 8), api.ErrForm},
		{"\x02" + strings.Repeat("\xff", 8), api.ErrForm}, {"\x03" + strings.Repeat("\xff", 8), api.ErrForm}, {"\x06\x01\x00\x80\x00", api.ErrForm},
		// No such Kind.
		{"\x00", api.ErrForm}, {"\x08", api.ErrForm}, {"\x7f", api.ErrForm}, {"\x81\x01", api.ErrForm}, {"\x80\x02\x00", api.ErrForm},
		{strings.Repeat("\xff", 7) + "\x7f", api.ErrForm}, {"\x04\x00", api.ErrForm}, {"\x05\x01\x00\x08", api.ErrForm}, {"\x07\x01\x00\x01\x00\x09", api.ErrForm},
		// No N that a Kind has.
		{"\x01\x0a", api.ErrForm}, {"\x01\x80\x02", api.ErrForm}, {"\x02\xa1\x8d\x06", api.ErrForm}, {"\x02" + strings.Repeat("\xff", 7) + "\x7f", api.ErrForm},
		{"\x03\x01a\x01", api.ErrForm}, {"\x03\x05a.rec\x0a", api.ErrForm}, {"\x03\x05a.rec\x80\x02", api.ErrForm}, {"\x03\x03rec\x01", api.ErrForm},
		// No name that a constant has.
		{"\x03\x00\x00", api.ErrForm}, {"\x03\x011\x00", api.ErrForm}, {"\x03\x02a.\x00", api.ErrForm}, {"\x03\x04.rec\x00", api.ErrForm}, {"\x03\x01\xff\x00", api.ErrForm},
		{"\x03\x03fun\x00", api.ErrForm}, {"\x03\x02pi\x00", api.ErrForm}, {"\x03\x03let\x00", api.ErrForm}, {"\x03\x02in\x00", api.ErrForm},
		{"\x03\x05Type0\x00", api.ErrForm}, {"\x03\x05Type9\x00", api.ErrForm},
		// Too long a name, whether it is there or not.
		{"\x03\x19" + long(25) + "\x00", api.ErrLarge}, {"\x03\x19", api.ErrLarge}, {"\x03\xff\x7f" + long(9), api.ErrLarge},
		{"\x03\x19" + long(21) + ".rec\x00", api.ErrLarge}, {"\x03\x19" + strings.Repeat("1", 25), api.ErrLarge},
	} {
		refused(t, row.s, row.want)
		// Likewise further in; what is ahead is in order.
		refused(t, "\x06\x03\x01a\x00"+row.s, row.want)
		refused(t, "\x07\x01\x00\x05\x02\x03"+row.s, row.want)
	}
}

// Of several errors the one counts that is in the first node from the left; within a node pack's errors are first.
func TestP8_1TheFirstError(t *testing.T) {
	for _, row := range []struct {
		s    string
		want api.Errno
	}{
		{"\x06\x08", api.ErrForm}, {"\x06\x08\x03\x19", api.ErrForm}, {"\x06\x03\x19\x08", api.ErrLarge}, {"\x06\x01\x0a\x03\x19", api.ErrForm},
		{"\x06\x01\x0a", api.ErrForm}, {"\x06\x01\x0a\x80\x00", api.ErrForm}, {"\x04\x03\x03fun\x00\x01", api.ErrForm}, {"\x04\x03\x03fun\x00\x03\x19", api.ErrForm},
		{"\x07\x01\x00\x03\x01a\x01\x03\x19", api.ErrForm}, {"\x07\x01\x00\x03\x19a\x01\x08", api.ErrLarge},
		// One node: its N lacks, though its name is wrong as well.
		{"\x03\x03fun", api.ErrShort}, {"\x03\x00", api.ErrShort}, {"\x03\x011\x80", api.ErrShort}, {"\x03\x011\x80\x00", api.ErrForm},
	} {
		refused(t, row.s, row.want)
	}
}

// A term cut off anywhere is short, wherever it is put.
func TestP8_1CutOff(t *testing.T) {
	for _, row := range told() {
		for cut := range len(row.s) {
			refused(t, row.s[:cut], api.ErrShort)
			refused(t, "\x06"+row.s[:cut], api.ErrShort)
			refused(t, "\x07"+row.s+row.s+row.s[:cut], api.ErrShort)
		}
	}
}

func TestP8_1AtTheLimit(t *testing.T) {
	four := let(sort(1), variable(2), constant("c"))
	for _, right := range []bool{false, true} {
		for _, row := range []struct {
			inner *api.Term
			times int
		}{{four, 1497}, {four, 1498}, {sort(1), 1498}, {sort(1), 1499}} {
			x := applied(row.inner, row.times, right)
			if size := term.Size(x); size < 2997 || size > 3000 {
				t.Fatal(size)
			}
			reads(t, code.Bytes(x)+"z", x, "z", api.OK)
		}
		for _, inner := range []*api.Term{four, sort(1), lam(sort(0), sort(0))} {
			if got := code.Bytes(applied(inner, 1500, right)); got != "" {
				t.Errorf("too large: %s", start(got))
			}
		}
	}
}

// Where one node more than there may be would begin, nothing else counts any more.
func TestP8_1OneNodeMore(t *testing.T) {
	apps := func(n int) string { return strings.Repeat("\x06", n) }
	left := func(n int) string { return strings.Repeat("\x06\x01\x00", n) }
	for _, row := range []struct {
		s    string
		want api.Errno
	}{
		{apps(2998), api.ErrShort}, {apps(2999), api.ErrShort}, {apps(3000), api.ErrLarge}, {apps(3001), api.ErrLarge}, {apps(5000), api.ErrLarge},
		{apps(2999) + "\x08", api.ErrForm}, {apps(3000) + "\x08", api.ErrLarge}, {apps(2999) + "\x80", api.ErrShort}, {apps(3000) + "\x80\x00", api.ErrLarge},
		{apps(2999) + "\x01", api.ErrShort}, {apps(2999) + "\x01\x00", api.ErrLarge}, {apps(2999) + "\x01\x0a", api.ErrForm}, {apps(2999) + "\x03\x03fun\x00", api.ErrForm},
		{apps(2000) + "\x08" + apps(2000), api.ErrForm}, {apps(2000) + "\x03\x19" + apps(2000), api.ErrLarge}, {apps(2000) + "\x80\x00" + apps(2000), api.ErrForm},
		{left(1499), api.ErrShort}, {left(1500), api.ErrLarge}, {left(1499) + "\x04", api.ErrShort}, {left(1499) + "\x04\x01\x00", api.ErrLarge}, {left(1500) + "\x01\x00", api.ErrLarge}, {left(1498) + "\x07" + "\x01\x00\x01\x00", api.ErrShort},
		{left(1498) + "\x07" + "\x01\x00\x01\x00\x01\x00", api.OK}, {left(1498) + "\x07" + "\x01\x00\x01\x00\x06", api.ErrLarge},
	} {
		want, rest := (*api.Term)(nil), row.s
		if row.want == api.OK {
			want, rest = applied(let(sort(0), sort(0), sort(0)), 1498, true), ""
		}
		reads(t, row.s, want, rest, row.want)
	}
}

func TestP8_1ErrorsTellWhatAndWhere(t *testing.T) {
	for s, want := range map[string]string{
		"":                          "code: node 1 cut off: pack: number, byte 0: error 11",
		"\x06\x01\x00\x03\x05a":     "code: node 3 cut off: pack: text, byte 2: error 11",
		"\x06\x80\x00":              "code: node 2 ill-formed: pack: number, byte 1: error 10",
		"\x06\x08":                  "code: node 2 ill-formed: error 10",
		"\x01\x0a":                  "code: node 1 ill-formed: error 10",
		"\x06\x03\x19":              "code: node 2 too large: pack: text, byte 0: error 13",
		strings.Repeat("\x06", 4e3): "code: node 3001 too large: error 13",
	} {
		if _, _, err := code.Read(s); err == nil || err.Error() != want {
			t.Errorf("%s: %v, want %s", start(s), err, want)
		}
	}
}

// copied is the same term, with no node of it, and none of its nodes shared.
func copied(t *api.Term) *api.Term {
	if t == nil {
		return nil
	}
	return &api.Term{Kind: t.Kind, N: t.N, Name: strings.Clone(t.Name), A: copied(t.A), B: copied(t.B), C: copied(t.C)}
}

// flat is all nodes of a term, from the left.
func flat(t *api.Term) []*api.Term {
	var l []*api.Term
	var add func(t *api.Term)
	add = func(t *api.Term) {
		if t != nil {
			l = append(l, t)
			add(t.A)
			add(t.B)
			add(t.C)
		}
	}
	add(t)
	return l
}

// What is read is new each time: no node of it is there twice, or in what was read before.
func TestP8_1ReadIsNew(t *testing.T) {
	one := app(sort(0), constant("a"))
	shared := let(one, app(one, one), lam(one, variable(0)))
	before, s := copied(shared), code.Bytes(shared)
	if !term.Same(shared, before) {
		t.Error("changed by Bytes")
	}
	seen := map[*api.Term]bool{}
	for range 3 {
		x, _, _ := code.Read(s)
		if !term.Same(x, before) {
			t.Fatal("not the same")
		}
		for _, node := range flat(x) {
			if seen[node] {
				t.Fatal("a node is there already")
			}
			seen[node] = true
		}
		for _, node := range flat(x) {
			*node = api.Term{Kind: 77, Name: "spoilt"}
		}
	}
	if !term.Same(shared, before) {
		t.Error("changed by Read")
	}
}

// Answers hang on what is handed over alone, whoever else asks.
func TestP8_2AskedAtOnce(t *testing.T) {
	x := applied(let(sort(1), variable(200), rec("nat.rec", 2)), 700, false)
	before, s := copied(x), code.Bytes(x)
	var all sync.WaitGroup
	for range 8 {
		all.Go(func() {
			for range 20 {
				y, rest, err := code.Read(s + "z")
				if code.Bytes(x) != s || !term.Same(y, before) || rest != "z" || err != nil {
					t.Error("told otherwise")
				}
			}
		})
	}
	all.Wait()
}

func Example() {
	id := lam(constant("nat"), variable(0))
	s := code.Bytes(id) + code.Bytes(sort(0))
	x, s, _ := code.Read(s)
	fmt.Println(term.Same(x, id), []byte(s))
	_, s, err := code.Read(s[:1])
	fmt.Println([]byte(s), errors.Is(err, api.ErrShort))
	// Output:
	// true [1 0]
	// [1] true
}
