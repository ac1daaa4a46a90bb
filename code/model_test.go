package code_test

import (
	"math/rand"
	"regexp"
	"strings"
	"testing"

	"vademecum/api"
	"vademecum/code"
	"vademecum/term"
)

var (
	aName    = regexp.MustCompile(`\A[a-zA-Z][a-zA-Z0-9_]*(\.[a-zA-Z][a-zA-Z0-9_]*)*\z`)
	aKeyword = regexp.MustCompile(`\A(fun|pi|let|in|Type[0-9])\z`)
)

// modelNumber is the number at the front told another way, with how many bytes it has.
func modelNumber(s []byte) (n, size int, why api.Errno) {
	for size < len(s) && size < 8 && s[size] > 127 {
		size++
	}
	switch {
	case size == 8:
		return 0, 0, api.ErrForm
	case size == len(s):
		return 0, 0, api.ErrShort
	case size > 0 && s[size] == 0:
		return 0, 0, api.ErrForm
	}
	size++
	for i := size - 1; i >= 0; i-- {
		n = n*128 + int(s[i])%128
	}
	return n, size, api.OK
}

// modelLeaf tells whether a node without parts is a term.
func modelLeaf(t api.Term) bool {
	top := 0
	switch {
	case t.Kind == 1, strings.HasSuffix(t.Name, ".rec"):
		top = 9
	case t.Kind == 2:
		top = 100000
	}
	named := len(t.Name) <= 24 && aName.MatchString(t.Name) && !aKeyword.MatchString(t.Name)
	return t.N <= top && (named || t.Kind != 3)
}

// modelNode is the node at the front without its parts, told another way, with how many bytes it has.
func modelNode(s []byte) (t api.Term, size int, why api.Errno) {
	if t.Kind, size, why = modelNumber(s); why != api.OK {
		return t, 0, why
	}
	if t.Kind < 1 || t.Kind > 7 {
		return t, 0, api.ErrForm
	}
	if t.Kind > 3 {
		return t, size, api.OK
	}
	if t.Kind == 3 {
		n, more, why := modelNumber(s[size:])
		if why != api.OK {
			return t, 0, why
		}
		size += more
		if n > 24 {
			return t, 0, api.ErrLarge
		}
		if n > len(s)-size {
			return t, 0, api.ErrShort
		}
		t.Name = string(s[size : size+n])
		size += n
	}
	n, more, why := modelNumber(s[size:])
	if why != api.OK {
		return t, 0, why
	}
	t.N = n
	if !modelLeaf(t) {
		return t, 0, api.ErrForm
	}
	return t, size + more, api.OK
}

// modelRead is Read told another way: all nodes are taken as a row, of which the term is made from its end.
func modelRead(s string) (*api.Term, string, api.Errno) {
	var row []*api.Term
	rest := []byte(s)
	parts := map[int]int{4: 2, 5: 2, 6: 2, 7: 3}
	for open := 1; open > 0; open-- {
		if len(row) == 3000 {
			return nil, s, api.ErrLarge
		}
		node, size, why := modelNode(rest)
		if why != api.OK {
			return nil, s, why
		}
		row = append(row, &node)
		rest = rest[size:]
		open += parts[node.Kind]
	}
	var made []*api.Term
	for i := len(row) - 1; i >= 0; i-- {
		t := row[i]
		for k, part := range []**api.Term{&t.A, &t.B, &t.C}[:parts[t.Kind]] {
			*part = made[len(made)-1-k]
		}
		made = append(made[:len(made)-parts[t.Kind]], t)
	}
	return made[0], string(rest), api.OK
}

// modelBytes is Bytes of what is a term told another way.
func modelBytes(t *api.Term) string {
	number := func(n int) string {
		var b []byte
		for ; n > 127; n /= 128 {
			b = append(b, byte(n%128+128))
		}
		return string(append(b, byte(n)))
	}
	var s strings.Builder
	for _, node := range flat(t) {
		s.WriteString(number(node.Kind))
		if node.Kind == 3 {
			s.WriteString(number(len(node.Name)) + node.Name)
		}
		if node.Kind < 4 {
			s.WriteString(number(node.N))
		}
	}
	return s.String()
}

// agrees holds Read of s against the model, and what was read against what writes it.
func agrees(t *testing.T, s string) bool {
	t.Helper()
	x, rest, why := modelRead(s)
	reads(t, s, x, rest, why)
	if why == api.OK && (!term.Is(x) || code.Bytes(x)+rest != s) {
		t.Errorf("read %s: written as %s", start(s), start(code.Bytes(x)))
	}
	return why == api.OK
}

func TestP8_1EveryShortText(t *testing.T) {
	read := 0
	texts := []string{""}
	for range 6 {
		var longer []string
		for _, s := range texts {
			for _, b := range []string{"\x00", "\x01", "\x02", "\x03", "\x05", "\x07", "\x08", "a", "\x80"} {
				longer = append(longer, s+b)
			}
		}
		for _, s := range longer {
			if agrees(t, s) {
				read++
			}
		}
		if texts = longer; t.Failed() {
			return
		}
	}
	if read < 1000 {
		t.Errorf("%d terms", read)
	}
}

// Every number as a Kind, as an N and as a size of a name.
func TestP8_1EveryNumber(t *testing.T) {
	for n := range 300 {
		s := modelBytes(variable(n))[1:]
		agrees(t, s+"\x01\x00\x01\x00\x01\x00")
		for _, ahead := range []string{"\x01", "\x02", "\x03", "\x03\x01a", "\x03\x05a.rec", "\x06\x02", "\x04\x02\x00\x01"} {
			agrees(t, ahead+s)
			agrees(t, ahead+s+long(24)+"\x00")
			agrees(t, ahead+s+long(300)+"\x00")
			agrees(t, ahead+s+long(n)+"\x00")
		}
	}
	for _, n := range []int{1 << 14, 99999, 100000, 100001, 1 << 20, 1 << 40, 1<<56 - 1, 1 << 56} {
		s := modelBytes(variable(n))[1:]
		for _, ahead := range []string{"", "\x01", "\x02", "\x03", "\x03\x01a", "\x03\x05a.rec"} {
			agrees(t, ahead+s+"\x00")
		}
	}
}

// Every byte in each place of some terms, put there, or there instead of another one.
func TestP8_1EverySpoiltByte(t *testing.T) {
	for _, row := range told() {
		for at := range len(row.s) {
			for b := range 256 {
				agrees(t, row.s[:at]+string([]byte{byte(b)})+row.s[at+1:])
				agrees(t, row.s[:at]+string([]byte{byte(b)})+row.s[at:])
			}
			agrees(t, row.s[:at]+row.s[at+1:])
		}
	}
}

// random is a term of so many nodes at most.
func random(r *rand.Rand, nodes int) *api.Term {
	switch {
	case nodes >= 4 && r.Intn(4) == 0:
		n := (nodes - 1) / 3
		return let(random(r, n), random(r, n), random(r, nodes-1-2*n))
	case nodes >= 3 && r.Intn(12) > 0:
		left := 1 + r.Intn(nodes-2)
		a, b := random(r, left), random(r, nodes-1-left)
		return []func(a, b *api.Term) *api.Term{pi, lam, app}[r.Intn(3)](a, b)
	}
	switch r.Intn(4) {
	case 0:
		return sort(r.Intn(10))
	case 1:
		return variable(r.Intn(100001) >> r.Intn(17))
	case 2:
		return rec(long(1+r.Intn(20))+".rec", r.Intn(10))
	}
	return constant([]string{"a", "nat.zero", "Type", "Z_9.b", long(24)}[r.Intn(5)])
}

func TestP8_2WrittenIsRead(t *testing.T) {
	r := rand.New(rand.NewSource(8))
	for range 5000 {
		x := random(r, 1+r.Intn(90))
		s := code.Bytes(x)
		if s != modelBytes(x) {
			t.Fatalf("%q, want %q", s, modelBytes(x))
		}
		reads(t, s, x, "", api.OK)
		reads(t, s+"\x00more", x, "\x00more", api.OK)
		refused(t, s[:r.Intn(len(s))], api.ErrShort)
	}
}

func TestP8_2LargeIsRead(t *testing.T) {
	r := rand.New(rand.NewSource(88))
	for range 60 {
		x := random(r, 3000)
		s := code.Bytes(x)
		if s != modelBytes(x) {
			t.Fatalf("%d nodes: %s", term.Size(x), start(s))
		}
		reads(t, s+s, x, s, api.OK)
	}
}

// Rows of terms are written behind one another, and read again.
func TestP8_2RowsAreRead(t *testing.T) {
	r := rand.New(rand.NewSource(888))
	for range 300 {
		var b strings.Builder
		row := make([]*api.Term, r.Intn(9))
		for i := range row {
			row[i] = random(r, 40)
			b.WriteString(code.Bytes(row[i]))
		}
		s := b.String()
		for _, x := range row {
			rest := s[len(code.Bytes(x)):]
			reads(t, s, x, rest, api.OK)
			s = rest
		}
		refused(t, s, api.ErrShort)
	}
}

// Terms are spoilt in a few places, and rows of bytes are made that are nearly terms.
func TestP8_1RandomBytes(t *testing.T) {
	r := rand.New(rand.NewSource(8888))
	for range 6000 {
		b := []byte(modelBytes(random(r, 1+r.Intn(60))))
		for range r.Intn(4) {
			at := r.Intn(len(b))
			switch r.Intn(3) {
			case 0:
				b[at] = byte(r.Intn(256))
			case 1:
				b[at] ^= 1 << r.Intn(8)
			default:
				b[at] = byte(r.Intn(9))
			}
		}
		agrees(t, string(b))
		for i := range b {
			b[i] = "\x00\x01\x01\x02\x03\x04\x05\x06\x07ab.\x80"[r.Intn(13)]
		}
		agrees(t, string(b))
	}
	for range 200 {
		b := []byte(modelBytes(app(random(r, 2400), random(r, 1200))))
		agrees(t, string(b))
		for range r.Intn(3) {
			b[r.Intn(len(b))] = byte(r.Intn(9))
		}
		agrees(t, string(b))
	}
}
