package null_test

import (
	"fmt"
	"maps"
	"math"
	"math/rand"
	"slices"
	"strings"
	"testing"

	"quill/api"
	"quill/null"
	"quill/read"
	"quill/rex"
	"quill/set"
)

var everyByte = api.Set{math.MaxUint64, math.MaxUint64, math.MaxUint64, math.MaxUint64}

func class(l ...byte) api.Re { return api.Re{Kind: api.Class, Set: set.Of(l...)} }

func node(kind uint8, kids ...api.Re) api.Re { return api.Re{Kind: kind, Kids: kids} }

// dump writes every node of an expression out, so that two dumps are alike just if the expressions are, node by node.
func dump(r api.Re) string {
	var b strings.Builder
	fmt.Fprintf(&b, "%d %x{", r.Kind, r.Set)
	for _, kid := range r.Kids {
		b.WriteString(dump(kid))
	}
	b.WriteString("}")
	return b.String()
}

// copyOf is the same expression, in memory of its own.
func copyOf(r api.Re) api.Re {
	out := api.Re{Kind: r.Kind, Set: r.Set}
	for _, kid := range r.Kids {
		out.Kids = append(out.Kids, copyOf(kid))
	}
	return out
}

// nodes are all nodes of an expression, by their places.
func nodes(r *api.Re) []*api.Re {
	out := []*api.Re{r}
	for i := range r.Kids {
		out = append(out, nodes(&r.Kids[i])...)
	}
	return out
}

// tower is a leaf with Stars around it.
func tower(height int, leaf api.Re) api.Re {
	for range height {
		leaf = node(api.Star, leaf)
	}
	return leaf
}

// comb is a chain of nodes with two kids, the second one (or the first one, if it is nested left) of them the chain's rest.
func comb(kind uint8, left bool, l ...api.Re) api.Re {
	if left {
		out := l[0]
		for _, x := range l[1:] {
			out = node(kind, out, x)
		}
		return out
	}
	out := l[len(l)-1]
	for i := len(l) - 2; i >= 0; i-- {
		out = node(kind, l[i], out)
	}
	return out
}

// known is what the calls tell of one expression.
type known struct {
	null, void, only bool
	first            api.Set
	shortest         string
	ok               bool
}

func (k known) String() string {
	return fmt.Sprintf("null %v, void %v, only %v, first %s, shortest %q %v", k.null, k.void, k.only, set.Text(k.first), k.shortest, k.ok)
}

func asked(r api.Re) known {
	s, ok := null.Shortest(r)
	return known{null.Null(r), null.Void(r), null.Only(r), null.First(r), s, ok}
}

func wantKnown(t *testing.T, r api.Re, want known) {
	t.Helper()
	if got := asked(r); got != want {
		t.Fatalf("P7.1: of %.300s is told: %v; not: %v", dump(r), got, want)
	}
}

// texts are all texts of at most so many bytes that an expression fits, by the words of chapter 3 alone.
func texts(r api.Re, most int) map[string]bool {
	out := map[string]bool{}
	switch r.Kind {
	case 2:
		out[""] = true
	case 3:
		for b := range 256 {
			if most > 0 && r.Set[b/64]>>(b%64)&1 == 1 {
				out[string([]byte{byte(b)})] = true
			}
		}
	case 4:
		return behind(texts(r.Kids[0], most), texts(r.Kids[1], most), most)
	case 5:
		maps.Copy(out, texts(r.Kids[0], most))
		maps.Copy(out, texts(r.Kids[1], most))
	case 6:
		kid := texts(r.Kids[0], most)
		out[""] = true
		for n := 0; n < len(out); {
			n = len(out)
			maps.Copy(out, behind(out, kid, most))
		}
	}
	return out
}

// behind are all texts of the first ones with one of the second ones behind them.
func behind(l, m map[string]bool, most int) map[string]bool {
	out := map[string]bool{}
	for s := range l {
		for t := range m {
			if len(s)+len(t) <= most {
				out[s+t] = true
			}
		}
	}
	return out
}

// byTexts goes through the texts that an expression fits. As many bytes as there are Classes are enough: each first byte, and a shortest text, is met there if each Star is taken once at most.
func byTexts(r api.Re) known {
	classes := 0
	for _, n := range nodes(&r) {
		if n.Kind == 3 {
			classes++
		}
	}
	l := texts(r, classes)
	k := known{null: l[""], void: len(l) == 0, only: l[""] && len(l) == 1}
	for s := range l {
		if s != "" {
			k.first[s[0]/64] |= 1 << (s[0] % 64)
		}
		if !k.ok || len(s) < len(k.shortest) || len(s) == len(k.shortest) && s < k.shortest {
			k.shortest, k.ok = s, true
		}
	}
	return k
}

// machine has places and ways between them, with a byte of a set or without a byte: a text leads from the place 0 to the place 1 just if the expression fits it.
type machine struct {
	out, into [][]way
}

type way struct {
	from, to int
	free     bool
	set      api.Set
}

func machineOf(r api.Re) *machine {
	m := &machine{}
	from, to := m.place(), m.place()
	m.build(r, from, to)
	return m
}

func (m *machine) place() int {
	m.out, m.into = append(m.out, nil), append(m.into, nil)
	return len(m.out) - 1
}

func (m *machine) lay(w way) {
	m.out[w.from] = append(m.out[w.from], w)
	m.into[w.to] = append(m.into[w.to], w)
}

func (m *machine) build(r api.Re, from, to int) {
	switch r.Kind {
	case 2:
		m.lay(way{from: from, to: to, free: true})
	case 3:
		m.lay(way{from: from, to: to, set: r.Set})
	case 4:
		mid := m.place()
		m.build(r.Kids[0], from, mid)
		m.build(r.Kids[1], mid, to)
	case 5:
		m.build(r.Kids[0], from, to)
		m.build(r.Kids[1], from, to)
	case 6:
		in, back := m.place(), m.place()
		m.lay(way{from: from, to: in, free: true})
		m.lay(way{from: back, to: in, free: true})
		m.lay(way{from: in, to: to, free: true})
		m.build(r.Kids[0], in, back)
	}
}

// far is how many bytes lead from each place to the place 1, at least; -1, if none do.
func (m *machine) far() []int {
	far := slices.Repeat([]int{-1}, len(m.out))
	now := []int{1}
	for d := 0; len(now) > 0; d++ {
		var next []int
		for len(now) > 0 {
			p := now[len(now)-1]
			now = now[:len(now)-1]
			if far[p] >= 0 {
				continue
			}
			far[p] = d
			for _, w := range m.into[p] {
				if w.free {
					now = append(now, w.from)
				} else {
					next = append(next, w.from)
				}
			}
		}
		now = next
	}
	return far
}

// reached are these places, and those to which ways without a byte lead.
func (m *machine) reached(l []int) []int {
	met := map[int]bool{}
	var out []int
	for l = slices.Clone(l); len(l) > 0; {
		p := l[len(l)-1]
		l = l[:len(l)-1]
		if met[p] {
			continue
		}
		met[p] = true
		out = append(out, p)
		for _, w := range m.out[p] {
			if w.free {
				l = append(l, w.to)
			}
		}
	}
	return out
}

// byMachine finds what is known on the ways of a machine, for expressions of any size.
func byMachine(r api.Re) known {
	m := machineOf(r)
	far := m.far()
	k := known{null: far[0] == 0, void: far[0] < 0}
	begin := m.reached([]int{0})
	for _, p := range begin {
		for _, w := range m.out[p] {
			if !w.free && far[w.to] >= 0 {
				for i := range k.first {
					k.first[i] |= w.set[i]
				}
			}
		}
	}
	k.only = k.null && k.first == api.Set{}
	if far[0] < 0 || far[0] > 100 {
		return k
	}
	k.ok = true
	at := begin
	for d := far[0] - 1; d >= 0; d-- {
		b, next := m.least(at, far, d)
		k.shortest += string([]byte{b})
		at = m.reached(next)
	}
	return k
}

// least is the least byte that leads from these places to such that are so far, and these.
func (m *machine) least(at, far []int, d int) (byte, []int) {
	for b := range 256 {
		var next []int
		for _, p := range at {
			for _, w := range m.out[p] {
				if !w.free && far[w.to] == d && w.set[b/64]>>(b%64)&1 == 1 {
					next = append(next, w.to)
				}
			}
		}
		if len(next) > 0 {
			return byte(b), next
		}
	}
	panic("no byte leads on")
}

func TestExamples(t *testing.T) {
	for _, c := range []struct {
		text             string
		null, void, only bool
		first, shortest  string
		ok               bool
	}{
		{"a*b", false, false, false, "[ab]", "b", true},
		{"[]", false, true, false, "[]", "", false},
		{"()", true, false, true, "[]", "", true},
		{"a", false, false, false, "a", "a", true},
		{".", false, false, false, ".", "\x00", true},
		{`[\ff\80]`, false, false, false, `[\80\ff]`, "\x80", true},
		{"a*", true, false, false, "a", "", true},
		{"()*", true, false, true, "[]", "", true},
		{"[]*", true, false, true, "[]", "", true},
		{"(a[])*", true, false, true, "[]", "", true},
		{"()|[]", true, false, true, "[]", "", true},
		{"()|a", true, false, false, "a", "", true},
		{"a|()", true, false, false, "a", "", true},
		{"[]|[]", false, true, false, "[]", "", false},
		{"a|[]", false, false, false, "a", "a", true},
		{"[]|a", false, false, false, "a", "a", true},
		{"()()", true, false, true, "[]", "", true},
		{"a[]", false, true, false, "[]", "", false},
		{"[]a", false, true, false, "[]", "", false},
		{"a*[]", false, true, false, "[]", "", false},
		{"[]a*", false, true, false, "[]", "", false},
		{"a*b*", true, false, false, "[ab]", "", true},
		{"ab*", false, false, false, "a", "a", true},
		{"(a|b[])c", false, false, false, "a", "ac", true},
		{"a*(b[]|c)", false, false, false, "[ac]", "c", true},
		{"(a|())(b|())c", false, false, false, "[a-c]", "c", true},
		{"ba|ab|ccc", false, false, false, "[a-c]", "ab", true},
		{"aaa|b", false, false, false, "[ab]", "b", true},
		{"b|aaa", false, false, false, "[ab]", "b", true},
		{"(b|a)(c|ab)", false, false, false, "[ab]", "ac", true},
		{`\80|\7f`, false, false, false, `[\7f\80]`, "\x7f", true},
		{`a\ff|b\00`, false, false, false, "[ab]", "a\xff", true},
	} {
		r, _, e := read.Read(c.text)
		if e != api.OK {
			t.Fatal("not read:", c.text)
		}
		s, ok := null.Shortest(r)
		if null.Null(r) != c.null || null.Void(r) != c.void || null.Only(r) != c.only || set.Text(null.First(r)) != c.first || s != c.shortest || ok != c.ok {
			t.Errorf("P7.1: of %s is told %v", c.text, asked(r))
		}
	}
}

func TestEveryByteAndSet(t *testing.T) {
	for a := range 256 {
		for b := range 256 {
			x := class(byte(a), byte(b))
			low := string([]byte{byte(min(a, b))})
			wantKnown(t, x, known{first: x.Set, shortest: low, ok: true})
			pair := node(api.Alt, class(byte(a)), class(byte(b)))
			wantKnown(t, pair, known{first: x.Set, shortest: low, ok: true})
			row := node(api.Seq, class(byte(a)), class(byte(b)))
			wantKnown(t, row, known{first: class(byte(a)).Set, shortest: string([]byte{byte(a), byte(b)}), ok: true})
		}
	}
	for _, s := range []api.Set{everyByte, {0, 1}, {0, 0, 1}, {0, 0, 0, 1 << 63}, {0, 0, 1 << 63, math.MaxUint64}} {
		x := api.Re{Kind: api.Class, Set: s}
		wantKnown(t, x, byTexts(x))
		wantKnown(t, node(api.Star, x), known{null: true, first: s, ok: true})
	}
}

// allOfSize are all expressions of so many nodes, for each number of nodes up to the greatest one, with these leaves.
func allOfSize(most int, leaves ...api.Re) [][]api.Re {
	out := [][]api.Re{nil, leaves}
	for n := 2; n <= most; n++ {
		var l []api.Re
		for _, x := range out[n-1] {
			l = append(l, node(api.Star, x))
		}
		for i := 1; i < n-1; i++ {
			for _, x := range out[i] {
				for _, y := range out[n-1-i] {
					l = append(l, node(api.Seq, x, y), node(api.Alt, x, y))
				}
			}
		}
		out = append(out, l)
	}
	return out
}

func TestAllSmallOnes(t *testing.T) {
	for _, l := range allOfSize(7, rex.Or(), rex.Then(), class(255), class('a'), class(0, 'a')) {
		for _, x := range l {
			want := byTexts(x)
			wantKnown(t, x, want)
			if want != byMachine(x) {
				t.Fatalf("the tests' own ways tell otherwise of %v", x)
			}
		}
	}
}

// chances are how often the kinds come, of 100: the rest of the inner nodes are Alts, and of the leaves Classes.
type chances struct{ star, seq, empty, eps int }

// ofSize is an expression of just so many nodes.
func (c chances) ofSize(r *rand.Rand, n int) api.Re {
	if n == 1 {
		return c.leaf(r)
	}
	what := r.Intn(100)
	if n == 2 || what < c.star {
		return node(api.Star, c.ofSize(r, n-1))
	}
	kind := api.Alt
	if what < c.star+c.seq {
		kind = api.Seq
	}
	i := 1 + r.Intn(n-2)
	return node(kind, c.ofSize(r, i), c.ofSize(r, n-1-i))
}

func (c chances) leaf(r *rand.Rand) api.Re {
	switch what := r.Intn(100); {
	case what < c.empty:
		return rex.Or()
	case what < c.empty+c.eps:
		return rex.Then()
	case what%7 == 0:
		return class(byte(r.Intn(256)), byte(r.Intn(256)), byte(r.Intn(256)))
	}
	return class("abc\x00\x7f\x80\xff"[r.Intn(7)])
}

// someExpressions is a fixed row of such that may be, up to the most nodes.
func someExpressions(n, most int) []api.Re {
	r := rand.New(rand.NewSource(7))
	var out []api.Re
	for range n {
		c := chances{r.Intn(4) * r.Intn(6), 30 + r.Intn(70), r.Intn(3) * r.Intn(10), r.Intn(3) * r.Intn(20)}
		out = append(out, c.ofSize(r, 1+r.Intn(most)))
	}
	return out
}

func TestManyOfAnySize(t *testing.T) {
	met := map[string]int{}
	for _, x := range append(someExpressions(2000, 2000), someExpressions(4000, 60)...) {
		want := byMachine(x)
		wantKnown(t, x, want)
		switch {
		case want.void:
			met["void"]++
		case want.only:
			met["only"]++
		case want.null:
			met["null"]++
		case !want.ok:
			met["long"]++
		case len(want.shortest) > 30:
			met["thirty"]++
		default:
			met["short"]++
		}
	}
	for _, sort := range []string{"void", "only", "null", "long", "thirty", "short"} {
		if met[sort] < 30 {
			t.Error("P7.1: too few expressions of one sort", met)
		}
	}
}

func word(n int, c byte) api.Re { return rex.Word(strings.Repeat(string([]byte{c}), n)) }

func TestAHundredBytes(t *testing.T) {
	l := func(n int, c string) string { return strings.Repeat(c, n) }
	for n := range 131 {
		want, ok := l(n, "a"), n <= 100
		if !ok {
			want = ""
		}
		for _, x := range []api.Re{
			word(n, 'a'),
			comb(api.Seq, true, append(slices.Repeat([]api.Re{class('a')}, n), rex.Then())...),
			rex.Then(word(n/2, 'a'), rex.Many(class('b')), word(n-n/2, 'a')),
			rex.Or(word(n, 'b'), word(n, 'a')),
			rex.Or(word(n, 'a'), word(n+1, 'a'), rex.Or()),
			rex.Or(rex.Or(), word(n+1, 'a'), word(n, 'a')),
		} {
			if s, got := null.Shortest(x); s != want || got != ok {
				t.Errorf("P7.1: Shortest of %d bytes is %q, %v", n, s, got)
			}
			if null.Void(x) || null.Null(x) != (n == 0) {
				t.Errorf("P7.1: Void or Null of %d bytes", n)
			}
		}
	}
	for _, c := range []struct {
		x    api.Re
		want string
		ok   bool
	}{
		{rex.Or(word(101, 'a'), word(100, 'b')), l(100, "b"), true},
		{rex.Or(word(100, 'b'), word(101, 'a')), l(100, "b"), true},
		{rex.Or(word(101, 'a'), word(101, 'b')), "", false},
		{rex.Then(rex.Or(word(200, 'a'), class('b')), word(99, 'c')), "b" + l(99, "c"), true},
		{rex.Then(rex.Or(word(200, 'a'), class('b')), word(100, 'c')), "", false},
		{rex.Then(word(99, 'c'), rex.Or(word(200, 'a'), class('b'))), l(99, "c") + "b", true},
		{rex.Then(word(51, 'a'), word(50, 'a')), "", false},
		{rex.Then(word(50, 'a'), word(50, 'b')), l(50, "a") + l(50, "b"), true},
		{rex.Then(word(60, 'a'), word(60, 'a'), rex.Or()), "", false},
		{rex.Or(rex.Then(word(101, 'a'), rex.Or()), rex.Or()), "", false},
		{rex.Many(word(101, 'a')), "", true},
		{rex.Then(rex.Many(word(101, 'a')), class('b')), "b", true},
		{rex.Or(rex.Then(), word(101, 'a')), "", true},
		{rex.Or(word(101, 'a'), rex.Then()), "", true},
	} {
		if s, ok := null.Shortest(c.x); s != c.want || ok != c.ok {
			t.Errorf("P7.1: Shortest of %.200v is %q, %v", c.x, s, ok)
		}
	}
	if long := word(1000, 'a'); null.Void(long) || null.First(long) != set.Of('a') || null.Only(long) || null.Only(node(api.Star, long)) {
		t.Error("P7.1: one whose texts are long isn't void")
	}
}

func TestAtTheMostNodes(t *testing.T) {
	a, b := class('a'), class('b')
	stars := slices.Repeat([]api.Re{node(api.Star, a)}, 666)
	for _, left := range []bool{false, true} {
		// 1999 nodes each, and 2000 with a Star around them.
		row := comb(api.Seq, left, slices.Repeat([]api.Re{a}, 1000)...)
		wantKnown(t, row, known{first: set.Of('a')})
		wantKnown(t, node(api.Star, row), known{null: true, first: set.Of('a'), ok: true})
		choice := comb(api.Alt, left, append(slices.Repeat([]api.Re{b}, 999), a)...)
		wantKnown(t, choice, known{first: set.Of('a', 'b'), shortest: "a", ok: true})
		empties := comb(api.Seq, left, slices.Repeat([]api.Re{rex.Then()}, 1000)...)
		wantKnown(t, empties, known{null: true, only: true, ok: true})
		none := comb(api.Alt, left, slices.Repeat([]api.Re{rex.Or()}, 1000)...)
		wantKnown(t, none, known{void: true})
		wantKnown(t, node(api.Star, none), known{null: true, only: true, ok: true})
		// 666 Stars are 1332 nodes, with 666 Seqs, and the last leaf: 1999.
		behindStars := comb(api.Seq, left, append(slices.Clone(stars), b)...)
		wantKnown(t, behindStars, known{first: set.Of('a', 'b'), shortest: "b", ok: true})
		voidAtTheEnd := comb(api.Seq, left, append(slices.Clone(stars), rex.Or())...)
		wantKnown(t, voidAtTheEnd, known{void: true})
	}
	wantKnown(t, tower(1999, a), known{null: true, first: set.Of('a'), ok: true})
	wantKnown(t, tower(1999, rex.Or()), known{null: true, only: true, ok: true})
}

// smallWrongOnes may not be, each of them for another node.
func smallWrongOnes() []api.Re {
	a := class('a')
	return []api.Re{
		{}, {Kind: 7}, {Kind: 255}, {Kind: api.Class},
		{Kind: api.Eps, Set: set.Of(0)},
		{Kind: api.Empty, Set: everyByte},
		{Kind: api.Star, Set: set.Of('a'), Kids: []api.Re{a}},
		{Kind: api.Seq, Set: set.Of('a'), Kids: []api.Re{a, a}},
		node(api.Empty, a), node(api.Eps, rex.Then()), node(api.Class, a),
		{Kind: api.Class, Set: set.Of('a'), Kids: []api.Re{a}},
		node(api.Seq), node(api.Seq, a), node(api.Seq, a, a, a), node(api.Seq, rex.Then(), rex.Then(), rex.Then()), node(api.Seq, rex.Or(), rex.Or(), rex.Or()),
		node(api.Alt), node(api.Alt, rex.Then()), node(api.Alt, rex.Or()), node(api.Alt, a, a, a),
		node(api.Star), node(api.Star, a, a), node(api.Star, api.Re{}),
		node(api.Seq, rex.Or(), api.Re{}), node(api.Alt, rex.Then(), api.Re{}), node(api.Alt, a, api.Re{Kind: api.Class}),
	}
}

// wrongOnes are these, and such with too many nodes, some of them without end.
func wrongOnes() []api.Re {
	a := class('a')
	round := []api.Re{{Kind: api.Star}}
	round[0].Kids = round
	grown := a
	for range 60 {
		grown = node(api.Alt, grown, grown)
	}
	return append(smallWrongOnes(),
		tower(2000, a), tower(2000, rex.Or()), tower(65535, a),
		comb(api.Seq, false, slices.Repeat([]api.Re{rex.Then()}, 1001)...),
		comb(api.Alt, true, slices.Repeat([]api.Re{rex.Or()}, 1001)...),
		comb(api.Alt, false, slices.Repeat([]api.Re{a}, 1001)...),
		node(api.Alt, make([]api.Re, 1<<20)...),
		round[0], grown,
	)
}

func TestWhatMayNotBe(t *testing.T) {
	for i, x := range wrongOnes() {
		if asked(x) != (known{}) {
			t.Errorf("P0.1, P7.1: of the wrong one %d is told %v", i, asked(x))
		}
	}
}

func TestWrongNodesEverywhere(t *testing.T) {
	for _, text := range []string{"(a|b*)()([]|(abc)*)", "(a|())*", "[]|a[]", "()()|()*"} {
		good, _, _ := read.Read(text)
		for i := range nodes(&good) {
			for _, wrong := range []api.Re{{}, {Kind: 7}, {Kind: api.Class}, {Kind: api.Eps, Set: set.Of(0)}, node(api.Alt), node(api.Star, class('a'), class('b'))} {
				x := copyOf(good)
				*nodes(&x)[i] = wrong
				if asked(x) != (known{}) {
					t.Errorf("P7.1: of %s with %v at the node %d is told %v", text, wrong, i, asked(x))
				}
			}
		}
	}
}

func TestNone(t *testing.T) {
	if !null.Null() || !null.Null([]api.Re{}...) || null.Void() || null.Void([]api.Re{}...) {
		t.Error("P7.1, P0.4: Null or Void of none")
	}
}

func TestSeveral(t *testing.T) {
	pool := append(smallWrongOnes(), rex.Or(), rex.Or(), rex.Then(), rex.Then(), class('a'))
	for _, text := range []string{"a*", "()()", "a|()", "b*c*", "(a|())*", "a[]", "[]|[]", "[]a", "ab", "a*b"} {
		x, _, _ := read.Read(text)
		pool = append(pool, x, x, x)
	}
	r := rand.New(rand.NewSource(8))
	met := map[string]int{}
	for i := range 20000 {
		l := make([]api.Re, i%6)
		allNull, oneVoid := true, false
		for k := range l {
			l[k] = pool[r.Intn(len(pool))]
			may := rex.May(l[k])
			allNull = allNull && may && byTexts(l[k]).null
			oneVoid = oneVoid || may && byTexts(l[k]).void
		}
		if null.Null(l...) != allNull || null.Void(l...) != oneVoid {
			t.Fatalf("P7.1: of %v is told Null %v, Void %v", l, null.Null(l...), null.Void(l...))
		}
		met[fmt.Sprint(min(len(l), 2), allNull, oneVoid)]++
	}
	for _, sort := range []string{"0 true false", "1 true false", "1 false true", "1 false false", "2 true false", "2 false true", "2 false false"} {
		if met[sort] < 100 {
			t.Error("P7.1: too few lists of one sort", met)
		}
	}
}

func TestEachPlaceOfAList(t *testing.T) {
	eps, a, wrong := rex.Then(), class('a'), api.Re{}
	for place := range 5 {
		l := slices.Repeat([]api.Re{eps}, 5)
		for _, x := range []api.Re{a, wrong, rex.Or()} {
			l[place] = x
			if null.Null(l...) {
				t.Errorf("P7.1: Null of several, with %v at %d", x, place)
			}
		}
		for _, other := range []api.Re{eps, a, wrong} {
			l = slices.Repeat([]api.Re{other}, 5)
			if null.Void(l...) {
				t.Errorf("P7.1: Void of several %v", other)
			}
			l[place] = rex.Or()
			if !null.Void(l...) {
				t.Errorf("P7.1: Void of several %v, with Empty at %d", other, place)
			}
		}
	}
	many := slices.Repeat([]api.Re{node(api.Star, a)}, 1<<16)
	if !null.Null(many...) || null.Void(many...) {
		t.Error("P0.1, P7.1: Null or Void of 65536")
	}
	many[1<<16-1] = rex.Or()
	if null.Null(many...) || !null.Void(many...) {
		t.Error("P0.1, P7.1: Null or Void of 65536, the last one void")
	}
}

func TestNilKidsAreNoKids(t *testing.T) {
	for _, kind := range []uint8{api.Empty, api.Eps} {
		bare, empty := api.Re{Kind: kind}, api.Re{Kind: kind, Kids: []api.Re{}}
		if asked(bare) != asked(empty) || !null.Only(rex.Many(empty)) {
			t.Error("P0.4: no kids aren't the same as nil ones, of kind", kind)
		}
	}
}

func TestWhatIsHandedInStays(t *testing.T) {
	room := []api.Re{class('b'), node(api.Star, class('a')), {Kind: 77}, {Kind: 78}}
	before := dump(node(0, room...))
	x := api.Re{Kind: api.Seq, Kids: room[:2]}
	null.Null(room[:2]...)
	null.Void(room[:2]...)
	null.Null(x, x)
	null.Void(x, x)
	asked(x)
	asked(node(api.Alt, x, api.Re{Kind: api.Eps, Kids: room[:0]}))
	if dump(node(0, room...)) != before {
		t.Error("P0.3: a list that was handed in has changed", room)
	}
	for _, y := range someExpressions(200, 100) {
		before := dump(y)
		asked(y)
		if dump(y) != before {
			t.Fatal("P0.3: an expression that was handed in has changed", y)
		}
	}
}

func TestNothingIsKept(t *testing.T) {
	for _, x := range someExpressions(200, 60) {
		first := asked(x)
		for _, n := range nodes(&x) {
			n.Set, n.Kids, n.Kind = api.Set{}, nil, api.Empty
		}
		if asked(x) != (known{void: true}) {
			t.Fatal("P0.3, P0.5: what is told of an expression hangs on what it was before", first)
		}
	}
}

func TestAnswersStayTheSame(t *testing.T) {
	l := append(someExpressions(300, 200), wrongOnes()...)
	var first []known
	for _, x := range l {
		first = append(first, asked(x))
	}
	for i := len(l) - 1; i >= 0; i-- {
		if asked(l[i]) != first[i] || asked(l[i]) != first[i] {
			t.Fatalf("P0.5: of the expression %d is told otherwise later", i)
		}
	}
}
