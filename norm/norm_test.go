package norm_test

import (
	"fmt"
	"maps"
	"math"
	"math/rand"
	"slices"
	"strings"
	"testing"

	"quill/api"
	"quill/norm"
	"quill/read"
	"quill/rex"
	"quill/set"
	"quill/show"
)

var everyByte = api.Set{math.MaxUint64, math.MaxUint64, math.MaxUint64, math.MaxUint64}

func class(l ...byte) api.Re { return api.Re{Kind: api.Class, Set: set.Of(l...)} }

func node(kind uint8, kids ...api.Re) api.Re { return api.Re{Kind: kind, Kids: kids} }

// readOne is for texts that are of the form.
func readOne(t *testing.T, text string) api.Re {
	t.Helper()
	r, _, e := read.Read(text)
	if e != api.OK {
		t.Fatal("not read:", text)
	}
	return r
}

// dump writes every node of an expression out, so that two dumps are alike just if the expressions are, node by node.
func dump(r api.Re) string {
	var b strings.Builder
	dumpTo(&b, r)
	return b.String()
}

func dumpTo(b *strings.Builder, r api.Re) {
	fmt.Fprintf(b, "%d %x{", r.Kind, r.Set)
	for _, kid := range r.Kids {
		dumpTo(b, kid)
	}
	b.WriteString("}")
}

// copyOf is the same expression, in memory of its own.
func copyOf(r api.Re) api.Re {
	out := api.Re{Kind: r.Kind, Set: r.Set}
	for _, kid := range r.Kids {
		out.Kids = append(out.Kids, copyOf(kid))
	}
	return out
}

// nodes are all nodes of an expression, by their places.
func nodes(r *api.Re) []*api.Re {
	out := []*api.Re{r}
	for i := range r.Kids {
		out = append(out, nodes(&r.Kids[i])...)
	}
	return out
}

// tower is a leaf with Stars around it.
func tower(height int, leaf api.Re) api.Re {
	for range height {
		leaf = node(api.Star, leaf)
	}
	return leaf
}

// comb is a chain of nodes with two kids, the second one (or the first one, if it is nested left) of them the chain's rest.
func comb(kind uint8, left bool, l ...api.Re) api.Re {
	if left {
		out := l[0]
		for _, x := range l[1:] {
			out = node(kind, out, x)
		}
		return out
	}
	out := l[len(l)-1]
	for i := len(l) - 2; i >= 0; i-- {
		out = node(kind, l[i], out)
	}
	return out
}

// flat writes an expression as numbers, so that their order, number by number, is that of chapter 4: behind each list stands a mark that comes ahead of every node.
func flat(r api.Re) []uint64 {
	out := []uint64{uint64(r.Kind) + 1}
	out = append(out, r.Set[:]...)
	for _, kid := range r.Kids {
		out = append(out, flat(kid)...)
	}
	return append(out, 0)
}

// plainSeq is what the chapter's words say of two.
func plainSeq(a, b api.Re) api.Re {
	switch {
	case a.Kind == 1 || b.Kind == 1:
		return node(1)
	case a.Kind == 2:
		return b
	case b.Kind == 2:
		return a
	case a.Kind == 4:
		return plainSeq(a.Kids[0], plainSeq(a.Kids[1], b))
	}
	return node(4, a, b)
}

// plainAlt is what the chapter's words say of some, one sentence behind the other.
func plainAlt(l ...api.Re) api.Re {
	isAlt := func(r api.Re) bool { return r.Kind == 5 }
	l = slices.Clone(l)
	for i := slices.IndexFunc(l, isAlt); i >= 0; i = slices.IndexFunc(l, isAlt) {
		l = slices.Replace(l, i, i+1, l[i].Kids...)
	}
	l = slices.DeleteFunc(l, func(r api.Re) bool { return r.Kind == 1 })
	class, some := node(3), false
	var others []api.Re
	for _, r := range l {
		if r.Kind != 3 {
			others = append(others, r)
			continue
		}
		some = true
		for i, word := range r.Set {
			class.Set[i] |= word
		}
	}
	if some {
		others = append(others, class)
	}
	others = plainOrder(others)
	if len(others) == 0 {
		return node(1)
	}
	return comb(5, false, others...)
}

// plainOrder are these in the order of chapter 4, each once.
func plainOrder(l []api.Re) []api.Re {
	type keyed struct {
		key []uint64
		re  api.Re
	}
	var k []keyed
	for _, r := range l {
		k = append(k, keyed{flat(r), r})
	}
	slices.SortFunc(k, func(a, b keyed) int { return slices.Compare(a.key, b.key) })
	var out []api.Re
	for i, x := range k {
		if i == 0 || !slices.Equal(x.key, k[i-1].key) {
			out = append(out, x.re)
		}
	}
	return out
}

func plainStar(a api.Re) api.Re {
	switch a.Kind {
	case 1, 2:
		return node(2)
	case 6:
		return a
	}
	return node(6, a)
}

func plainNorm(r api.Re) api.Re {
	switch r.Kind {
	case 4:
		return plainSeq(plainNorm(r.Kids[0]), plainNorm(r.Kids[1]))
	case 5:
		return plainAlt(plainNorm(r.Kids[0]), plainNorm(r.Kids[1]))
	case 6:
		return plainStar(plainNorm(r.Kids[0]))
	}
	return r
}

// plainSeqs and plainAlts are what the chapter says of Seq and Alt of a list: of one, or of the first one and of that of the others.
func plainSeqs(l ...api.Re) api.Re {
	switch len(l) {
	case 0:
		return node(2)
	case 1:
		return plainNorm(l[0])
	}
	return plainSeq(plainNorm(l[0]), plainSeqs(l[1:]...))
}

func plainAlts(l ...api.Re) api.Re {
	switch len(l) {
	case 0:
		return node(1)
	case 1:
		return plainNorm(l[0])
	}
	return plainAlt(plainNorm(l[0]), plainAlts(l[1:]...))
}

func wantSame(t *testing.T, call string, got, want api.Re) {
	t.Helper()
	if dump(got) != dump(want) {
		t.Fatalf("P8.1: %.300s is %.300s, not %.300s", call, show.Text(got), show.Text(want))
	}
}

// wantNormal holds all that is promised of one expression, but which texts it fits.
func wantNormal(t *testing.T, r api.Re) api.Re {
	t.Helper()
	x, text := norm.Norm(r), show.Text(r)
	want := plainNorm(r)
	wantSame(t, "Norm of "+text, x, want)
	wantSame(t, "Seq of one, "+text, norm.Seq(r), want)
	wantSame(t, "Alt of one, "+text, norm.Alt(r), want)
	wantSame(t, "Star of "+text, norm.Star(r), plainStar(want))
	if norm.Is(r) != (dump(r) == dump(want)) {
		t.Fatalf("P8.1: Is of %.300s is %v", text, norm.Is(r))
	}
	if again := norm.Norm(x); dump(again) != dump(x) || !norm.Is(x) {
		t.Fatalf("P8.2: the normal form %.300s isn't its own one, but %.300s", show.Text(x), show.Text(again))
	}
	if len(nodes(&x)) > len(nodes(&r)) {
		t.Fatalf("P8.2: the normal form of %.300s has more nodes: %.300s", text, show.Text(x))
	}
	return x
}

// texts are all texts of at most so many bytes that an expression fits, by the words of chapter 3 alone.
func texts(r api.Re, most int) map[string]bool {
	out := map[string]bool{}
	switch r.Kind {
	case 2:
		out[""] = true
	case 3:
		for b := range 256 {
			if most > 0 && r.Set[b/64]>>(b%64)&1 == 1 {
				out[string([]byte{byte(b)})] = true
			}
		}
	case 4:
		return behind(texts(r.Kids[0], most), texts(r.Kids[1], most), most)
	case 5:
		maps.Copy(out, texts(r.Kids[0], most))
		maps.Copy(out, texts(r.Kids[1], most))
	case 6:
		kid := texts(r.Kids[0], most)
		out[""] = true
		for n := 0; n < len(out); {
			n = len(out)
			maps.Copy(out, behind(out, kid, most))
		}
	}
	return out
}

// behind are all texts of the first ones with one of the second ones behind them.
func behind(l, m map[string]bool, most int) map[string]bool {
	out := map[string]bool{}
	for s := range l {
		for t := range m {
			if len(s)+len(t) <= most {
				out[s+t] = true
			}
		}
	}
	return out
}

// machine has places and ways between them, with a byte of a set or without a byte: a text leads from the place 0 to the place 1 just if the expression fits it.
type machine [][]way

type way struct {
	to   int
	free bool
	set  api.Set
}

func machineOf(r api.Re) machine {
	m := machine{nil, nil}
	m.build(r, 0, 1)
	return m
}

func (m *machine) place() int {
	*m = append(*m, nil)
	return len(*m) - 1
}

func (m *machine) lay(from int, w way) { (*m)[from] = append((*m)[from], w) }

func (m *machine) build(r api.Re, from, to int) {
	switch r.Kind {
	case 2:
		m.lay(from, way{to: to, free: true})
	case 3:
		m.lay(from, way{to: to, set: r.Set})
	case 4:
		mid := m.place()
		m.build(r.Kids[0], from, mid)
		m.build(r.Kids[1], mid, to)
	case 5:
		m.build(r.Kids[0], from, to)
		m.build(r.Kids[1], from, to)
	case 6:
		in, back := m.place(), m.place()
		m.lay(from, way{to: in, free: true})
		m.lay(back, way{to: in, free: true})
		m.lay(in, way{to: to, free: true})
		m.build(r.Kids[0], in, back)
	}
}

// reached are these places, and those to which ways without a byte lead, rising.
func (m machine) reached(l []int) []int {
	met := make([]bool, len(m))
	var out []int
	for len(l) > 0 {
		p := l[len(l)-1]
		l = l[:len(l)-1]
		if met[p] {
			continue
		}
		met[p] = true
		out = append(out, p)
		for _, w := range m[p] {
			if w.free {
				l = append(l, w.to)
			}
		}
	}
	slices.Sort(out)
	return out
}

func (m machine) step(at []int, b byte) []int {
	var next []int
	for _, p := range at {
		for _, w := range m[p] {
			if !w.free && w.set[b/64]>>(b%64)&1 == 1 {
				next = append(next, w.to)
			}
		}
	}
	return m.reached(next)
}

// unlikeBytes are bytes of which no two are in the same sets of these expressions: all others are like one of them.
func unlikeBytes(l ...api.Re) []byte {
	sets := map[api.Set]bool{}
	for _, r := range l {
		for _, n := range nodes(&r) {
			sets[n.Set] = true
		}
	}
	all := slices.Collect(maps.Keys(sets))
	met := map[string]bool{}
	var out []byte
	for b := range 256 {
		var in strings.Builder
		for _, s := range all {
			fmt.Fprint(&in, s[b/64]>>(b%64)&1)
		}
		if !met[in.String()] {
			met[in.String()] = true
			out = append(out, byte(b))
		}
	}
	return out
}

// alike goes on behind all texts, the shorter ones first, until so many pairs of lists of places were met, or there is no new one. It tells a text that one alone of both fits, and false; else true.
func alike(x, y api.Re, most int) (string, bool) {
	type pair struct {
		text string
		a, b []int
	}
	m, n, l := machineOf(x), machineOf(y), unlikeBytes(x, y)
	todo := []pair{{"", m.reached([]int{0}), n.reached([]int{0})}}
	met := map[string]bool{}
	for len(todo) > 0 && len(met) < most {
		p := todo[0]
		todo = todo[1:]
		key := fmt.Sprint(p.a, p.b)
		if met[key] {
			continue
		}
		met[key] = true
		if slices.Contains(p.a, 1) != slices.Contains(p.b, 1) {
			return p.text, false
		}
		for _, b := range l {
			todo = append(todo, pair{p.text + string([]byte{b}), m.step(p.a, b), n.step(p.b, b)})
		}
	}
	return "", true
}

func TestExamples(t *testing.T) {
	for _, c := range [][2]string{
		{"()a|[]b|a", "a"},
		{"[]", "[]"}, {"()", "()"}, {"a", "a"}, {".", "."}, {"[a-c]", "[a-c]"},
		// Seqs.
		{"[]a", "[]"}, {"a[]", "[]"}, {"[]()", "[]"}, {"()[]", "[]"}, {"[][]", "[]"}, {"()()", "()"},
		{"()a", "a"}, {"a()", "a"}, {"()(ab)", "ab"}, {"(ab)()", "ab"}, {"aa", "aa"}, {"ba", "ba"},
		{"(ab)c", "abc"}, {"((ab)c)d", "abcd"}, {"(ab)(cd)", "abcd"}, {"(a(bc))(d(ef))", "abcdef"}, {"((ab)(cd))((ef)g)", "abcdefg"},
		{"((a()b)c)()", "abc"}, {"((a[])b)c", "[]"}, {"a(b(c[]))", "[]"}, {"(a|b)(c|d)", "[ab][cd]"},
		{"([]|ab)c", "abc"}, {"(ab|ac)d", "(ab|ac)d"}, {"a*a*", "a*a*"}, {"()*a", "a"}, {"a[]*", "a"},
		// Alts.
		{"[]|[]", "[]"}, {"()|()", "()"}, {"[]|()", "()"}, {"()|[]", "()"}, {"[]|a", "a"}, {"a|[]", "a"},
		{"a|b", "[ab]"}, {"b|a", "[ab]"}, {"a|a", "a"}, {"[ab]|[bc]", "[a-c]"}, {"a|ab|b", "[ab]|ab"}, {"ab|a|cd|b", "[ab]|ab|cd"},
		{`\00|\ff|\80|\7f`, `[\00\7f\80\ff]`}, {`[\00-\7f]|[\80-\ff]`, "."}, {".|a", "."}, {".|a*", ".|a*"},
		{"a|()", "()|a"}, {"a*|()", "()|a*"}, {"a*|ab|b|()|[]", "()|b|ab|a*"}, {"b*|a*", "a*|b*"}, {"ab|aa", "aa|ab"}, {"aab|ab", "ab|aab"},
		{"(a*|b*)|c*", "a*|b*|c*"}, {"((c*|a*)|(b*|a*))|(c*|d*)", "a*|b*|c*|d*"}, {"(a*|b)|(c|d*)", "[bc]|a*|d*"},
		{"(ab)c|a(bc)", "abc"}, {"(a|b)*|(b|a)*", "[ab]*"}, {"(a|b)c|(b|a)c", "[ab]c"},
		{"(a*|b)c|a*|b", "b|(b|a*)c|a*"}, {"a|[]*", "()|a"}, {"([]|(a*|b*))|c*", "a*|b*|c*"},
		{`\80*|a*`, `\80*|a*`}, {`\00*|a*|\41*`, `A*|a*|\00*`},
		// Stars.
		{"[]*", "()"}, {"()*", "()"}, {"a*", "a*"}, {"a**", "a*"}, {"a****", "a*"}, {"[]**", "()"}, {"()***", "()"},
		{"(a*|[])*", "a*"}, {"(a*())*", "a*"}, {"(a[])*", "()"}, {"(()|())*", "()"}, {"(()|a)*", "(()|a)*"}, {"(a|())*", "(()|a)*"},
		{"(a*b*)*", "(a*b*)*"}, {"(a*|b*)*", "(a*|b*)*"}, {"((ab)c)*", "(abc)*"}, {"(b*|a*)**", "(a*|b*)*"},
	} {
		r := readOne(t, c[0])
		x := norm.Norm(r)
		if show.Text(x) != c[1] {
			t.Errorf("P8.1: Norm of %s is %s, not %s", c[0], show.Text(x), c[1])
		}
		if !norm.Is(x) || norm.Is(r) != (c[0] == c[1]) {
			t.Errorf("P8.1: Is of %s or of %s", c[0], c[1])
		}
		wantNormal(t, r)
		if s, ok := alike(r, x, 1000); !ok {
			t.Errorf("P8.2: of %s and its normal form %s one alone fits %q", c[0], show.Text(x), s)
		}
	}
}

func TestEveryTwoBytes(t *testing.T) {
	for a := range 256 {
		for b := range 256 {
			x, y := class(byte(a)), class(byte(b))
			wantSame(t, "Alt of two bytes", norm.Alt(x, y), class(byte(a), byte(b)))
			wantSame(t, "Norm of two bytes", norm.Norm(node(api.Alt, x, y)), class(byte(a), byte(b)))
			wantSame(t, "Seq of two bytes", norm.Seq(x, y), node(api.Seq, x, y))
			if norm.Is(node(api.Alt, x, y)) || !norm.Is(x, node(api.Seq, x, y), class(byte(a), byte(b))) {
				t.Fatalf("P8.1: Is of the bytes %d and %d", a, b)
			}
		}
	}
	var all []api.Re
	for b := range 256 {
		all = append(all, class(byte(255-b)))
	}
	wantSame(t, "Alt of all bytes", norm.Alt(all...), api.Re{Kind: api.Class, Set: everyByte})
}

// allOfSize are all expressions of so many nodes, for each number of nodes up to the greatest one, with these leaves.
func allOfSize(most int, leaves ...api.Re) [][]api.Re {
	out := [][]api.Re{nil, leaves}
	for n := 2; n <= most; n++ {
		var l []api.Re
		for _, x := range out[n-1] {
			l = append(l, node(api.Star, x))
		}
		for i := 1; i < n-1; i++ {
			for _, x := range out[i] {
				for _, y := range out[n-1-i] {
					l = append(l, node(api.Seq, x, y), node(api.Alt, x, y))
				}
			}
		}
		out = append(out, l)
	}
	return out
}

func TestAllSmallOnes(t *testing.T) {
	for size, l := range allOfSize(7, rex.Or(), rex.Then(), class(255), class('a'), class(0, 'a')) {
		for i, r := range l {
			x := wantNormal(t, r)
			// Of the greatest ones a part is enough: all of them would take long.
			if size == 7 && i%5 != 0 {
				continue
			}
			if !maps.Equal(texts(r, 5), texts(x, 5)) {
				t.Fatalf("P8.2: %s and its normal form %s fit unlike texts", show.Text(r), show.Text(x))
			}
		}
	}
}

// chances are how often the kinds come, of 100: the rest of the inner nodes are Alts, and of the leaves Classes.
type chances struct{ star, seq, empty, eps int }

// ofSize is an expression of just so many nodes.
func (c chances) ofSize(r *rand.Rand, n int) api.Re {
	if n == 1 {
		return c.leaf(r)
	}
	what := r.Intn(100)
	if n == 2 || what < c.star {
		return node(api.Star, c.ofSize(r, n-1))
	}
	kind := api.Alt
	if what < c.star+c.seq {
		kind = api.Seq
	}
	i := 1 + r.Intn(n-2)
	return node(kind, c.ofSize(r, i), c.ofSize(r, n-1-i))
}

func (c chances) leaf(r *rand.Rand) api.Re {
	switch what := r.Intn(100); {
	case what < c.empty:
		return rex.Or()
	case what < c.empty+c.eps:
		return rex.Then()
	case what%7 == 0:
		return class(byte(r.Intn(256)), byte(r.Intn(256)), byte(r.Intn(256)))
	}
	return class("abc\x00\x7f\x80\xff"[r.Intn(7)])
}

// someExpressions is a fixed row of such that may be, up to the most nodes.
func someExpressions(n, most int) []api.Re {
	r := rand.New(rand.NewSource(8))
	var out []api.Re
	for range n {
		c := chances{r.Intn(4) * r.Intn(9), 10 + r.Intn(80), r.Intn(3) * r.Intn(8), r.Intn(3) * r.Intn(20)}
		out = append(out, c.ofSize(r, 1+r.Intn(most)))
	}
	return out
}

func TestManyOfAnySize(t *testing.T) {
	met := map[string]int{}
	for _, c := range []struct{ n, size, pairs int }{{3000, 12, 300}, {1500, 60, 60}, {60, 2000, 8}} {
		for _, r := range someExpressions(c.n, c.size) {
			x := wantNormal(t, r)
			if s, ok := alike(r, x, c.pairs); !ok {
				t.Fatalf("P8.2: of %.300s and its normal form %.300s one alone fits %q", show.Text(r), show.Text(x), s)
			}
			met[fmt.Sprintf("kind %d", x.Kind)]++
			met[fmt.Sprintf("is %v", norm.Is(r))]++
			if rex.Size(x) > 500 {
				met["great"]++
			}
		}
	}
	for _, sort := range []string{"kind 1", "kind 2", "kind 3", "kind 4", "kind 5", "kind 6", "is true", "is false", "great"} {
		if met[sort] < 20 {
			t.Error("P8.1: too few expressions of one sort", met)
		}
	}
}

func TestSeveral(t *testing.T) {
	var pool []api.Re
	for _, text := range []string{"[]", "()", "()", "a", "b", "[a-c]", `\80`, "ab", "(ab)c", "a(bc)", "a|b", "a|ab", "ab|a", "a*", "a*", "b*|a*", "(a*|b*)|c*", "a**", "[]*", "()|a", "a[]", "[]|[]", "(a|[])()", "(a*|b)c"} {
		pool = append(pool, readOne(t, text))
	}
	r := rand.New(rand.NewSource(9))
	for i := range 30000 {
		l := make([]api.Re, i%7)
		all := true
		for k := range l {
			l[k] = pool[r.Intn(len(pool))]
			all = all && dump(l[k]) == dump(plainNorm(l[k]))
		}
		text := show.Lines(l...)
		wantSame(t, "Seq of\n"+text, norm.Seq(l...), plainSeqs(l...))
		wantSame(t, "Alt of\n"+text, norm.Alt(l...), plainAlts(l...))
		wantSame(t, "Norm of Then of\n"+text, norm.Norm(rex.Then(l...)), plainSeqs(l...))
		wantSame(t, "Norm of Or of\n"+text, norm.Norm(rex.Or(l...)), plainAlts(l...))
		if norm.Is(l...) != all {
			t.Fatalf("P8.1: Is is %v, of\n%s", !all, text)
		}
		if x := norm.Alt(l...); !norm.Is(x, norm.Seq(l...)) {
			t.Fatalf("P8.2: Alt or Seq isn't a normal form, of\n%s", text)
		}
		r.Shuffle(len(l), func(i, k int) { l[i], l[k] = l[k], l[i] })
		wantSame(t, "Alt, in another row, of\n"+text, norm.Alt(l...), plainAlts(l...))
	}
}

func TestNone(t *testing.T) {
	for _, l := range [][]api.Re{nil, {}} {
		wantSame(t, "Seq of none", norm.Seq(l...), rex.Then())
		wantSame(t, "Alt of none", norm.Alt(l...), rex.Or())
		if !norm.Is(l...) {
			t.Error("P8.1, P0.4: Is of none")
		}
	}
}

func TestNilKidsAreNoKids(t *testing.T) {
	for _, bare := range []api.Re{{Kind: api.Empty}, {Kind: api.Eps}, class('a')} {
		r := bare
		r.Kids = []api.Re{}
		if !norm.Is(r) || !norm.Is(bare) {
			t.Error("P0.4: no kids aren't the same as nil ones, of kind", r.Kind)
		}
		wantSame(t, "Norm of one without kids", norm.Norm(r), bare)
		wantSame(t, "Seq of one without kids, and another one", norm.Seq(r, class('b')), norm.Seq(bare, class('b')))
		wantSame(t, "Alt of one without kids, and another one", norm.Alt(r, tower(1, r)), norm.Alt(bare, tower(1, bare)))
		wantSame(t, "Star of one without kids", norm.Star(r), norm.Star(bare))
	}
}

func TestAtTheMostNodes(t *testing.T) {
	a, b := class('a'), class('b')
	words := make([]api.Re, 500)
	for i := range words {
		words[i] = node(api.Seq, class(byte(i%250)), class(byte(i/250)))
	}
	inOrder := plainOrder(words)
	for _, left := range []bool{false, true} {
		// 1999 nodes each, and 2000 with a Star around them.
		row := comb(api.Seq, left, slices.Repeat([]api.Re{a}, 1000)...)
		wantSame(t, "Norm of 1000 in a row", norm.Norm(row), comb(api.Seq, false, slices.Repeat([]api.Re{a}, 1000)...))
		wantSame(t, "Norm of a Star of 1000 in a row", norm.Norm(node(api.Star, row)), node(api.Star, norm.Norm(row)))
		if norm.Is(row) == left || norm.Is(node(api.Star, row)) == left {
			t.Error("P8.1: Is of 1000 in a row")
		}
		choice := comb(api.Alt, left, append(slices.Repeat([]api.Re{b}, 999), a)...)
		wantSame(t, "Norm of one of 1000", norm.Norm(choice), class('a', 'b'))
		// 500 of three nodes each, and 499 Alts.
		wantSame(t, "Norm of one of 500 unlike ones", norm.Norm(comb(api.Alt, left, words...)), comb(api.Alt, false, inOrder...))
		wantSame(t, "Norm of Eps 1000 times", norm.Norm(comb(api.Seq, left, slices.Repeat([]api.Re{rex.Then()}, 1000)...)), rex.Then())
		wantSame(t, "Norm of one of Empty 1000 times", norm.Norm(comb(api.Alt, left, slices.Repeat([]api.Re{rex.Or()}, 1000)...)), rex.Or())
		void := comb(api.Seq, left, append(slices.Repeat([]api.Re{a}, 999), rex.Or())...)
		wantSame(t, "Norm of a row that ends with Empty", norm.Norm(void), rex.Or())
	}
	wantSame(t, "Norm of 1999 Stars", norm.Norm(tower(1999, a)), tower(1, a))
	wantSame(t, "Norm of 1999 Stars of Empty", norm.Norm(tower(1999, rex.Or())), rex.Then())
	nested := a
	for range 666 {
		// Three more nodes each time: 1999 in all.
		nested = node(api.Star, node(api.Seq, b, nested))
	}
	wantSame(t, "Norm of 666 Stars in one another", norm.Norm(nested), nested)
	if !norm.Is(nested) || !norm.Is(tower(1, a)) || norm.Is(tower(1999, a)) {
		t.Error("P8.1: Is of many Stars")
	}
}

// What is answered may have more nodes than MaxNodes: the chapter asks only that those that are handed in may be.
func TestAnswersBeyondTheMostNodes(t *testing.T) {
	row := rex.Word(strings.Repeat("a", 1000))
	star := node(api.Star, row)
	full := rex.Then(tower(1, class('b')), rex.Word(strings.Repeat("a", 999)))
	if rex.Size(star) != 2000 || rex.Size(full) != 2000 {
		t.Fatal("not of the most nodes:", rex.Size(star), rex.Size(full))
	}
	other := rex.Word(strings.Repeat("b", 1000))
	for _, c := range []struct {
		call      string
		got, want api.Re
	}{
		{"Star of 2000 nodes", norm.Star(full), node(api.Star, full)},
		{"Seq of 2000 and 2000 nodes", norm.Seq(star, star), node(api.Seq, star, star)},
		{"Seq of 1999 and 1999 nodes", norm.Seq(row, other), rex.Word(strings.Repeat("a", 1000) + strings.Repeat("b", 1000))},
		{"Seq of three of 2000 nodes", norm.Seq(star, star, star), node(api.Seq, star, node(api.Seq, star, star))},
		{"Alt of 1999 and 2000 nodes", norm.Alt(star, other), node(api.Alt, other, star)},
		{"Alt of three great ones", norm.Alt(star, other, row, star), node(api.Alt, row, node(api.Alt, other, star))},
	} {
		if dump(c.got) != dump(c.want) {
			t.Errorf("P8.1: %s has %d nodes, not %d, or others", c.call, rex.Size(c.got), rex.Size(c.want))
		}
		if norm.Is(c.got) || norm.Norm(c.got).Kind != 0 {
			t.Errorf("P8.1: %s may not be, but is told to be a normal form", c.call)
		}
	}
	wantSame(t, "Seq of a great one, and Empty", norm.Seq(star, star, rex.Or()), rex.Or())
	wantSame(t, "Alt of a great one twice", norm.Alt(star, star), star)
}

func TestLongLists(t *testing.T) {
	const n = 1 << 15
	l := slices.Repeat([]api.Re{class('a')}, n)
	got := norm.Seq(l...)
	for i := range n - 1 {
		if got.Kind != api.Seq || got.Kids[0].Set != set.Of('a') {
			t.Fatal("P0.1, P8.1: Seq of 32768, at", i)
		}
		got = got.Kids[1]
	}
	wantSame(t, "the last one of 32768", got, class('a'))
	wantSame(t, "Alt of 32768", norm.Alt(l...), class('a'))
	if !norm.Is(l...) {
		t.Error("P0.1, P8.1: Is of 32768")
	}
	l[n-1] = node(api.Alt, class('a'), rex.Or())
	if norm.Is(l...) {
		t.Error("P0.1, P8.1: Is of 32768, the last one no normal form")
	}
	l[n-1] = rex.Or()
	wantSame(t, "Seq of 32768, the last one Empty", norm.Seq(l...), rex.Or())
	l[n-1] = api.Re{}
	wantZero(t, "of 32768, the last one wrong", l...)
}

// smallWrongOnes may not be, each of them for another node.
func smallWrongOnes() []api.Re {
	a := class('a')
	return []api.Re{
		{}, {Kind: 7}, {Kind: 255}, {Kind: api.Class},
		{Kind: api.Eps, Set: set.Of(0)},
		{Kind: api.Empty, Set: everyByte},
		{Kind: api.Star, Set: set.Of('a'), Kids: []api.Re{a}},
		{Kind: api.Seq, Set: set.Of('a'), Kids: []api.Re{a, a}},
		node(api.Empty, a), node(api.Eps, rex.Then()), node(api.Class, a),
		{Kind: api.Class, Set: set.Of('a'), Kids: []api.Re{a}},
		node(api.Seq), node(api.Seq, a), node(api.Seq, a, a, a), node(api.Seq, rex.Then(), rex.Then(), rex.Then()), node(api.Seq, rex.Or(), rex.Or(), rex.Or()),
		node(api.Alt), node(api.Alt, rex.Then()), node(api.Alt, rex.Or()), node(api.Alt, a, a, a),
		node(api.Star), node(api.Star, a, a), node(api.Star, api.Re{}),
		node(api.Seq, rex.Or(), api.Re{}), node(api.Alt, rex.Then(), api.Re{}), node(api.Alt, a, api.Re{Kind: api.Class}),
	}
}

// wrongOnes are these, and such with too many nodes, some of them without end.
func wrongOnes() []api.Re {
	a := class('a')
	round := []api.Re{{Kind: api.Star}}
	round[0].Kids = round
	grown := a
	for range 60 {
		grown = node(api.Alt, grown, grown)
	}
	return append(smallWrongOnes(),
		tower(2000, a), tower(2000, rex.Or()), tower(65535, a),
		comb(api.Seq, false, slices.Repeat([]api.Re{rex.Then()}, 1001)...),
		comb(api.Alt, true, slices.Repeat([]api.Re{rex.Or()}, 1001)...),
		comb(api.Alt, false, slices.Repeat([]api.Re{a}, 1001)...),
		node(api.Alt, make([]api.Re, 1<<20)...),
		round[0], grown,
	)
}

// wantZero holds Seq, Alt and Is to what is told of lists with one that may not be.
func wantZero(t *testing.T, what string, l ...api.Re) {
	t.Helper()
	isZero := func(r api.Re) bool { return r.Kind == 0 && r.Set == api.Set{} && len(r.Kids) == 0 }
	if !isZero(norm.Seq(l...)) || !isZero(norm.Alt(l...)) || norm.Is(l...) {
		t.Errorf("P0.1, P8.1: Seq or Alt isn't the zero expression, or Is is true, %s", what)
	}
	if len(l) == 1 && (!isZero(norm.Norm(l[0])) || !isZero(norm.Star(l[0]))) {
		t.Errorf("P0.1, P8.1: Norm or Star isn't the zero expression, %s", what)
	}
}

func TestWhatMayNotBe(t *testing.T) {
	good := []api.Re{class('a'), rex.Or(), rex.Then(), tower(1, class('b')), rex.Word("ab")}
	for i, x := range wrongOnes() {
		wantZero(t, fmt.Sprint("of the wrong one ", i), x)
		for place := range len(good) + 1 {
			wantZero(t, fmt.Sprint("of some, with the wrong one ", i, " at ", place), slices.Insert(slices.Clone(good), place, x)...)
		}
		for _, other := range wrongOnes()[:5] {
			wantZero(t, fmt.Sprint("of two wrong ones, ", i), other, x)
		}
	}
}

func TestWrongNodesEverywhere(t *testing.T) {
	for _, text := range []string{"(a|b*)()([]|(abc)*)", "(a|())*", "[]|a[]", "()()|()*", "[](a|b)c"} {
		good := readOne(t, text)
		for i := range nodes(&good) {
			for _, wrong := range []api.Re{{}, {Kind: 7}, {Kind: api.Class}, {Kind: api.Eps, Set: set.Of(0)}, node(api.Alt), node(api.Star, class('a'), class('b'))} {
				x := copyOf(good)
				*nodes(&x)[i] = wrong
				wantZero(t, fmt.Sprintf("of %s with %v at the node %d", text, wrong, i), x)
			}
		}
	}
}

// answers are what all calls answer of two expressions.
func answers(x, y api.Re) []api.Re {
	return []api.Re{norm.Norm(x), norm.Norm(y), norm.Star(x), norm.Star(y), norm.Seq(x), norm.Alt(x), norm.Seq(x, y), norm.Seq(x, x), norm.Alt(x, y), norm.Alt(x, x), norm.Alt(y, x, y), norm.Seq(y, x, y)}
}

func TestWhatIsHandedInStays(t *testing.T) {
	room := []api.Re{class('b'), node(api.Star, class('a')), {Kind: api.Empty}, class('a'), {Kind: 77}, {Kind: 78}}
	before := dump(node(0, room...))
	norm.Seq(room[:4]...)
	norm.Alt(room[:4]...)
	norm.Is(room[:4]...)
	for _, kind := range []uint8{api.Seq, api.Alt} {
		x := api.Re{Kind: kind, Kids: room[:2]}
		norm.Is(x, x)
		answers(x, node(api.Alt, x, api.Re{Kind: api.Eps, Kids: room[:0]}))
		answers(node(api.Seq, x, x), api.Re{Kind: api.Alt, Kids: room[2:4]})
	}
	if dump(node(0, room...)) != before {
		t.Error("P0.3: a list that was handed in has changed, or the room behind its end", room)
	}
	l := someExpressions(300, 100)
	for i, x := range l {
		y := l[(i+1)%len(l)]
		before := dump(x) + dump(y)
		norm.Is(x, y)
		answers(x, y)
		if dump(x)+dump(y) != before {
			t.Fatal("P0.3: an expression that was handed in has changed", show.Text(x), show.Text(y))
		}
	}
}

// spoil writes into every node, and into the room behind every list's end.
func spoil(r api.Re) {
	for i := range r.Kids {
		spoil(r.Kids[i])
		r.Kids[i] = api.Re{Kind: 99}
	}
	room := r.Kids[:cap(r.Kids)]
	for i := len(r.Kids); i < len(room); i++ {
		room[i] = api.Re{Kind: 98}
	}
}

func TestAnswersAreNewMemory(t *testing.T) {
	l := someExpressions(300, 40)
	// Such that are their own normal forms, or stand in them as they are, are nearest to being answered themselves.
	for _, text := range []string{"a", "()", "[]", "a*", "abc", "a|ab|a*", "(ab)*", "(ab|a*)(b|c*)*"} {
		l = append(l, readOne(t, text), norm.Norm(readOne(t, text)))
	}
	for i := range l {
		x, y := l[i], l[(i+1)%len(l)]
		before := dump(x) + dump(y)
		var want []string
		for _, r := range answers(x, y) {
			want = append(want, dump(r))
		}
		for k := range want {
			// The others are there already when one is written into, so that memory that both have would be seen.
			all := answers(x, y)
			spoil(all[k])
			for n, r := range all {
				if n != k && dump(r) != want[n] {
					t.Fatal("P0.3: what was written into one answer is in another one", show.Text(x), show.Text(y))
				}
			}
			if dump(x)+dump(y) != before {
				t.Fatal("P0.3: what was written into an answer is in what was handed in", show.Text(x), show.Text(y))
			}
		}
		for n, r := range answers(x, y) {
			if dump(r) != want[n] {
				t.Fatal("P0.3, P0.5: what was written into an answer is in a later one", show.Text(x), show.Text(y))
			}
		}
	}
}

func TestRoomBehindAnEmptyListIsNotHandedOn(t *testing.T) {
	for _, kind := range []uint8{api.Empty, api.Eps, api.Class} {
		room := []api.Re{class('b'), class('c')}
		x := api.Re{Kind: kind, Kids: room[:0]}
		if kind == api.Class {
			x.Set = set.Of('a')
		}
		for _, r := range append(answers(x, x), answers(tower(1, x), node(api.Seq, x, class('d')))...) {
			spoil(r)
			if dump(node(0, room...)) != dump(node(0, class('b'), class('c'))) {
				t.Fatal("P0.3: the room behind an empty list is in an answer, of kind", kind)
			}
		}
	}
}

// No two lists of one answer share memory: what is written into one node is seen there alone.
func TestListsOfOneAnswerAreApart(t *testing.T) {
	ab := readOne(t, "ab*")
	shared := node(api.Seq, ab, node(api.Alt, ab, node(api.Star, ab)))
	for i, r := range answers(shared, node(api.Seq, shared, shared)) {
		all := nodes(&r)
		for k, n := range all {
			n.Kind = uint8(k % 251)
		}
		for k, n := range all {
			if n.Kind != uint8(k%251) {
				t.Fatal("P0.3: two lists of one answer share memory, of the answer", i)
			}
		}
	}
}

func TestNothingIsKept(t *testing.T) {
	for _, x := range someExpressions(200, 60) {
		kept := norm.Norm(x)
		before := dump(kept)
		for _, n := range nodes(&x) {
			n.Set, n.Kids, n.Kind = api.Set{}, nil, api.Empty
		}
		wantSame(t, "Norm of what is Empty now", norm.Norm(x), rex.Or())
		if dump(kept) != before {
			t.Fatal("P0.3: an answer has changed with what was handed in")
		}
	}
}

func TestAnswersStayTheSame(t *testing.T) {
	l := append(someExpressions(300, 200), wrongOnes()...)
	told := func(x api.Re) string {
		return dump(norm.Norm(x)) + dump(norm.Star(x)) + dump(norm.Seq(l[0], x)) + dump(norm.Alt(l[0], x)) + fmt.Sprint(norm.Is(x))
	}
	var first []string
	for _, x := range l {
		first = append(first, told(x))
	}
	for i := len(l) - 1; i >= 0; i-- {
		if told(l[i]) != first[i] || told(l[i]) != first[i] {
			t.Fatalf("P0.5: of the expression %d is told otherwise later", i)
		}
	}
}
