package match_test

import (
	"fmt"
	"math"
	"math/rand"
	"slices"
	"strings"
	"testing"

	"quill/api"
	"quill/deriv"
	"quill/match"
	"quill/norm"
	"quill/null"
	"quill/read"
	"quill/rex"
	"quill/set"
	"quill/show"
)

var everyByte = api.Set{math.MaxUint64, math.MaxUint64, math.MaxUint64, math.MaxUint64}

func class(l ...byte) api.Re { return api.Re{Kind: api.Class, Set: set.Of(l...)} }

func node(kind uint8, kids ...api.Re) api.Re { return api.Re{Kind: kind, Kids: kids} }

// letters is a row of a letter.
func letters(n int, c byte) api.Re { return rex.Word(strings.Repeat(string([]byte{c}), n)) }

// readOne is for texts that are of the form.
func readOne(t *testing.T, text string) api.Re {
	t.Helper()
	r, _, e := read.Read(text)
	if e != api.OK {
		t.Fatal("not read:", text)
	}
	return r
}

// dump writes every node of an expression out, so that two dumps are alike just if the expressions are, node by node.
func dump(l ...api.Re) string {
	var b strings.Builder
	dumpTo(&b, l)
	return b.String()
}

func dumpTo(b *strings.Builder, l []api.Re) {
	for _, r := range l {
		fmt.Fprintf(b, "%d %x{", r.Kind, r.Set)
		dumpTo(b, r.Kids)
		b.WriteString("}")
	}
}

// copyOf is the same expression, in memory of its own.
func copyOf(r api.Re) api.Re {
	out := api.Re{Kind: r.Kind, Set: r.Set}
	for _, kid := range r.Kids {
		out.Kids = append(out.Kids, copyOf(kid))
	}
	return out
}

// nodes are all nodes of an expression, by their places.
func nodes(r *api.Re) []*api.Re {
	out := []*api.Re{r}
	for i := range r.Kids {
		out = append(out, nodes(&r.Kids[i])...)
	}
	return out
}

// tower is a leaf with Stars around it.
func tower(height int, leaf api.Re) api.Re {
	for range height {
		leaf = node(api.Star, leaf)
	}
	return leaf
}

// comb is a chain of nodes with two kids, the second one (or the first one, if it is nested left) of them the chain's rest.
func comb(kind uint8, left bool, l ...api.Re) api.Re {
	if left {
		out := l[0]
		for _, x := range l[1:] {
			out = node(kind, out, x)
		}
		return out
	}
	out := l[len(l)-1]
	for i := len(l) - 2; i >= 0; i-- {
		out = node(kind, l[i], out)
	}
	return out
}

func has(s api.Set, b byte) bool { return s[b/64]>>(b%64)&1 == 1 }

// fitsPlainly is what chapter 3 says, asked of each way to cut a text in two.
func fitsPlainly(r api.Re, s string) bool {
	switch r.Kind {
	case 2:
		return s == ""
	case 3:
		return len(s) == 1 && has(r.Set, s[0])
	case 4:
		return isCut(s, 0, r.Kids[0], r.Kids[1])
	case 5:
		return fitsPlainly(r.Kids[0], s) || fitsPlainly(r.Kids[1], s)
	case 6:
		// Texts of the kid that are empty may be left out.
		return s == "" || isCut(s, 1, r.Kids[0], r)
	}
	return false
}

// isCut tells whether one fits a front, of so many bytes at least, and the other one the rest.
func isCut(s string, least int, x, y api.Re) bool {
	for i := least; i <= len(s); i++ {
		if fitsPlainly(x, s[:i]) && fitsPlainly(y, s[i:]) {
			return true
		}
	}
	return false
}

// machine has places and ways between them, with a byte of a set or without a byte: a text leads from the place 0 to the place 1 just if the expression fits it.
type machine [][]way

type way struct {
	to   int
	free bool
	set  api.Set
}

func machineOf(r api.Re) machine {
	m := machine{nil, nil}
	m.build(r, 0, 1)
	return m
}

func (m *machine) place() int {
	*m = append(*m, nil)
	return len(*m) - 1
}

func (m *machine) lay(from int, w way) { (*m)[from] = append((*m)[from], w) }

func (m *machine) build(r api.Re, from, to int) {
	switch r.Kind {
	case 2:
		m.lay(from, way{to: to, free: true})
	case 3:
		m.lay(from, way{to: to, set: r.Set})
	case 4:
		mid := m.place()
		m.build(r.Kids[0], from, mid)
		m.build(r.Kids[1], mid, to)
	case 5:
		m.build(r.Kids[0], from, to)
		m.build(r.Kids[1], from, to)
	case 6:
		in, back := m.place(), m.place()
		m.lay(from, way{to: in, free: true})
		m.lay(back, way{to: in, free: true})
		m.lay(in, way{to: to, free: true})
		m.build(r.Kids[0], in, back)
	}
}

// reached are these places, and those to which ways without a byte lead.
func (m machine) reached(l []int) []int {
	met := make([]bool, len(m))
	var out []int
	for len(l) > 0 {
		p := l[len(l)-1]
		l = l[:len(l)-1]
		if met[p] {
			continue
		}
		met[p] = true
		out = append(out, p)
		for _, w := range m[p] {
			if w.free {
				l = append(l, w.to)
			}
		}
	}
	return out
}

func (m machine) step(at []int, b byte) []int {
	var next []int
	for _, p := range at {
		for _, w := range m[p] {
			if !w.free && has(w.set, b) {
				next = append(next, w.to)
			}
		}
	}
	return m.reached(next)
}

func (m machine) ends(s string, at int) []int {
	var out []int
	for now := m.reached([]int{0}); len(now) > 0; at++ {
		if slices.Contains(now, 1) {
			out = append(out, at)
		}
		if at == len(s) {
			break
		}
		now = m.step(now, s[at])
	}
	return out
}

// someText goes on with bytes that lead on, now and then with any byte.
func (m machine) someText(r *rand.Rand, n int) string {
	now := m.reached([]int{0})
	var text []byte
	for range n {
		b := byte(r.Intn(256))
		if l := m.leadingOn(r, now); len(l) > 0 && r.Intn(30) > 0 {
			b = l[r.Intn(len(l))]
		}
		text = append(text, b)
		now = m.step(now, b)
	}
	return string(text)
}

// leadingOn are some bytes that lead on from these places, one a way.
func (m machine) leadingOn(r *rand.Rand, now []int) []byte {
	var out []byte
	for _, p := range now {
		for _, w := range m[p] {
			if !w.free {
				l := set.Bytes(w.set)
				out = append(out, l[r.Intn(len(l))])
			}
		}
	}
	return out
}

// wantEnds holds all calls on one expression and one text, from one place on, to the ends that they hang on.
func wantEnds(t *testing.T, r api.Re, s string, at int, want []int) {
	t.Helper()
	if got := match.Ends(r, s, at); !slices.Equal(got, want) {
		t.Fatalf("P10.1: Ends of %.300s in %.300q from %d on are %.300s, not %.300s", show.Text(r), s, at, fmt.Sprint(got), fmt.Sprint(want))
	}
	longest := 0
	if len(want) > 0 {
		longest = want[len(want)-1] - at
	}
	if n, ok := match.Longest(r, s, at); n != longest || ok != (longest > 0) {
		t.Fatalf("P10.1: Longest of %.300s in %.300q from %d on is %d, %v, not %d", show.Text(r), s, at, n, ok, longest)
	}
}

func wantFits(t *testing.T, r api.Re, s string, want bool) {
	t.Helper()
	if match.Fits(r, s) != want {
		t.Fatalf("P10.1: Fits of %.300s and %.300q is %v", show.Text(r), s, !want)
	}
	i, ok := match.Any(s, api.Re{}, rex.Or(), r)
	if ok != want || ok && i != 2 || !ok && i != 0 {
		t.Fatalf("P10.1: Any of %.300q and %.300s is %d, %v", s, show.Text(r), i, ok)
	}
}

func TestExamples(t *testing.T) {
	for _, c := range []struct {
		text, s string
		at      int
		want    []int
	}{
		{"a*", "aab", 0, []int{0, 1, 2}}, {"a*", "aab", 1, []int{1, 2}}, {"a*", "aab", 2, []int{2}}, {"a*", "aab", 3, []int{3}},
		{"[]", "", 0, nil}, {"[]", "a", 0, nil}, {"[]", "a", 1, nil}, {"[]*", "aa", 1, []int{1}},
		{"()", "", 0, []int{0}}, {"()", "ab", 0, []int{0}}, {"()", "ab", 2, []int{2}}, {"()*", "ab", 1, []int{1}},
		{"a", "", 0, nil}, {"a", "a", 0, []int{1}}, {"a", "a", 1, nil}, {"a", "b", 0, nil}, {"a", "ba", 1, []int{2}}, {".", "\x00\xff", 1, []int{2}},
		{"ab", "abab", 0, []int{2}}, {"ab", "abab", 1, nil}, {"ab", "abab", 2, []int{4}}, {"ab", "abab", 3, nil},
		{"a[]", "aa", 0, nil}, {"[]a", "aa", 0, nil}, {"a()", "aa", 0, []int{1}}, {"()a", "aa", 0, []int{1}},
		{"ab|a", "ab", 0, []int{1, 2}}, {"a|ab", "ab", 0, []int{1, 2}}, {"ab|()", "ab", 0, []int{0, 2}}, {"a|a", "a", 0, []int{1}}, {"abc|a|()", "abc", 0, []int{0, 1, 3}},
		{"(a|ab)(c|bc)", "abc", 0, []int{3}}, {"(a|ab)(bc|c|())", "abc", 0, []int{1, 2, 3}}, {"(a|ab)(b|())", "abb", 0, []int{1, 2, 3}},
		{"(ab)*", "ababa", 0, []int{0, 2, 4}}, {"(ab)*", "ababa", 1, []int{1}}, {"(ab)*", "ababa", 2, []int{2, 4}},
		{"(aa|aaa)*", "aaaaaa", 0, []int{0, 2, 3, 4, 5, 6}}, {"(aa|aaa)*", "aaaaaa", 5, []int{5}}, {"(aaa|aa)*b", "aaaaab", 1, []int{6}},
		{"(()|a)*", "aa", 0, []int{0, 1, 2}}, {"(a*b*)*c", "abbac", 0, []int{5}}, {"a*a*", "aaa", 0, []int{0, 1, 2, 3}}, {"a*aa", "aaaa", 0, []int{2, 3, 4}},
		{"a**", "aa", 0, []int{0, 1, 2}}, {"((a|b)*c)*", "abcacb", 0, []int{0, 3, 5}}, {"(a(b(c*))*)*", "abcacb", 0, []int{0, 1, 2, 3, 4}},
		// Texts go by bytes: a place may be within two that make one sign together.
		{`\c3\a9*`, "\u00e9", 0, []int{1, 2}}, {`\a9`, "\u00e9", 1, []int{2}}, {".", "\u00e9", 0, []int{1}}, {`\ff\00*`, "\xff\x00\x00", 0, []int{1, 2, 3}},
		// What isn't on the way from the place on plays no part.
		{"aa", "aab", -1, nil}, {"()", "", -1, nil}, {"()", "", 1, nil}, {"a*", "aab", 4, nil}, {"a*", "aab", math.MaxInt, nil}, {"a*", "aab", math.MinInt, nil},
	} {
		wantEnds(t, readOne(t, c.text), c.s, c.at, c.want)
	}
}

func TestExamplesOfFits(t *testing.T) {
	for _, c := range []struct {
		text    string
		yes, no []string
	}{
		{"[]", nil, []string{"", "a"}}, {"()", []string{""}, []string{"a", "\x00"}}, {"a", []string{"a"}, []string{"", "b", "aa", "A"}},
		{"(ab)*", []string{"", "ab", "abab"}, []string{"a", "b", "aba", "ababb", "ba"}},
		{"(a|ab)(c|bc)", []string{"ac", "abc", "abbc"}, []string{"", "ab", "abcc", "bc"}},
		{"(aa|aaa)*", []string{"", "aa", "aaa", "aaaa", "aaaaaaa"}, []string{"a", "aab", "baa"}},
		{"a(b|c)*d", []string{"ad", "abcbcd"}, []string{"a", "d", "abcd ", "abca"}},
		{".*", []string{"", "\x00\xff\x80", "\u00e9"}, nil}, {".", []string{"\xff"}, []string{"\u00e9"}},
	} {
		r := readOne(t, c.text)
		for _, s := range c.yes {
			wantFits(t, r, s, true)
		}
		for _, s := range c.no {
			wantFits(t, r, s, false)
			if match.Fits(r, append(slices.Clone(c.yes), s)...) || match.Fits(r, append([]string{s}, c.yes...)...) {
				t.Errorf("P10.1: Fits of %s, some that it fits, and %q", c.text, s)
			}
		}
		if !match.Fits(r, c.yes...) || !match.Fits(r, append(c.yes, c.yes...)...) {
			t.Errorf("P10.1: Fits of %s and all that it fits", c.text)
		}
	}
}

func TestEveryByte(t *testing.T) {
	for a := range 256 {
		one := class(byte(a))
		other := api.Re{Kind: api.Class, Set: set.Less(everyByte, one.Set)}
		for b := range 256 {
			s := string([]byte{byte(b), byte(b)})
			for _, c := range []struct {
				r  api.Re
				in bool
			}{{one, a == b}, {other, a != b}, {api.Re{Kind: api.Class, Set: everyByte}, true}} {
				want := []int{1}
				if c.in {
					want = []int{1, 2}
				}
				if got := match.Ends(tower(1, c.r), s, 1); !slices.Equal(got, want) || match.Fits(c.r, s[:1]) != c.in {
					t.Fatalf("P10.1: Ends of %s* in %q from 1 on are %v, or Fits", show.Text(c.r), s, got)
				}
			}
		}
	}
}

// allOfSize are all expressions of so many nodes, for each number of nodes up to the greatest one, with these leaves.
func allOfSize(most int, leaves ...api.Re) [][]api.Re {
	out := [][]api.Re{nil, leaves}
	for n := 2; n <= most; n++ {
		var l []api.Re
		for _, x := range out[n-1] {
			l = append(l, node(api.Star, x))
		}
		for i := 1; i < n-1; i++ {
			for _, x := range out[i] {
				for _, y := range out[n-1-i] {
					l = append(l, node(api.Seq, x, y), node(api.Alt, x, y))
				}
			}
		}
		out = append(out, l)
	}
	return out
}

// allTexts are all texts of these bytes, up to a length.
func allTexts(most int, l ...byte) []string {
	out := []string{""}
	for from := 0; most > 0; most-- {
		for end := len(out); from < end; from++ {
			for _, b := range l {
				out = append(out, out[from]+string([]byte{b}))
			}
		}
	}
	return out
}

// fitted are those of some texts that an expression fits, by the words of chapter 3 alone.
func fitted(r api.Re, texts []string) map[string]bool {
	out := map[string]bool{}
	for _, s := range texts {
		if fitsPlainly(r, s) {
			out[s] = true
		}
	}
	return out
}

// wantSmall holds all calls of one small expression to the chapter, in all texts, from all places on.
func wantSmall(t *testing.T, r api.Re, texts []string) {
	t.Helper()
	fits := fitted(r, texts)
	m := machineOf(r)
	for _, s := range texts {
		wantFits(t, r, s, fits[s])
		for at := range len(s) + 1 {
			var want []int
			for end := at; end <= len(s); end++ {
				if fits[s[at:end]] {
					want = append(want, end)
				}
			}
			if !slices.Equal(m.ends(s, at), want) {
				t.Fatal("the tests' own ways tell otherwise of", show.Text(r), s, at)
			}
			wantEnds(t, r, s, at, want)
		}
		wantEnds(t, r, s, -1, nil)
		wantEnds(t, r, s, len(s)+1, nil)
	}
}

func TestAllSmallOnes(t *testing.T) {
	leaves := []api.Re{rex.Or(), rex.Then(), class('b'), class('a', 'b')}
	for size, l := range allOfSize(7, leaves...) {
		texts := allTexts(4, 'a', 'b')
		if size == 7 {
			// There are many of them: shorter texts are enough.
			texts = allTexts(2, 'a', 'b')
		}
		for _, r := range l {
			wantSmall(t, r, texts)
		}
	}
}

// chances are how often the kinds come, of 100: the rest of the inner nodes are Alts, and of the leaves Classes.
type chances struct{ star, seq, empty, eps int }

// ofSize is an expression of just so many nodes.
func (c chances) ofSize(r *rand.Rand, n int) api.Re {
	if n == 1 {
		return c.leaf(r)
	}
	what := r.Intn(100)
	if n == 2 || what < c.star {
		return node(api.Star, c.ofSize(r, n-1))
	}
	kind := api.Alt
	if what < c.star+c.seq {
		kind = api.Seq
	}
	i := 1 + r.Intn(n-2)
	return node(kind, c.ofSize(r, i), c.ofSize(r, n-1-i))
}

func (c chances) leaf(r *rand.Rand) api.Re {
	switch what := r.Intn(100); {
	case what < c.empty:
		return rex.Or()
	case what < c.empty+c.eps:
		return rex.Then()
	case what%7 == 0:
		return class(byte(r.Intn(256)), byte(r.Intn(256)), byte(r.Intn(256)))
	}
	return class("abc\x00\x7f\x80\xff"[r.Intn(7)])
}

// someExpressions are such that may be, up to the most nodes.
func someExpressions(r *rand.Rand, n, most int) []api.Re {
	var out []api.Re
	for range n {
		c := chances{r.Intn(4) * r.Intn(9), 10 + r.Intn(80), r.Intn(2) * r.Intn(4), r.Intn(3) * r.Intn(20)}
		out = append(out, c.ofSize(r, 1+r.Intn(most)))
	}
	return out
}

// someAsked are expressions, each with a text that leads on from one of its places on.
func someAsked(seed int64, n, most, long int) ([]api.Re, []string, []int) {
	r := rand.New(rand.NewSource(seed))
	var texts []string
	var places []int
	l := someExpressions(r, n, most)
	for _, x := range l {
		front := strings.Repeat("a", r.Intn(3)*r.Intn(40))
		texts = append(texts, front+machineOf(x).someText(r, r.Intn(long)))
		places = append(places, len(front))
	}
	return l, texts, places
}

func TestManyOfAnySize(t *testing.T) {
	met := map[string]int{}
	for _, c := range []struct{ n, size, long int }{{6000, 12, 12}, {2000, 60, 80}, {300, 2000, 200}} {
		l, texts, places := someAsked(int64(c.size), c.n, c.size, c.long)
		for i, r := range l {
			m, s := machineOf(r), texts[i]
			for _, at := range []int{places[i], 0, len(s) / 2, len(s)} {
				want := m.ends(s, at)
				wantEnds(t, r, s, at, want)
				met[fmt.Sprint("ends ", min(len(want), 3))]++
			}
			for _, end := range []int{len(s), len(s) / 2, places[i]} {
				want := slices.Contains(m.ends(s[:end], 0), end)
				wantFits(t, r, s[:end], want)
				met[fmt.Sprint("fits ", want)]++
			}
			if len(m.ends(s, places[i])) > 30 {
				met["thirty"]++
			}
		}
	}
	for _, sort := range []string{"ends 0", "ends 1", "ends 2", "ends 3", "thirty", "fits true", "fits false"} {
		if met[sort] < 100 {
			t.Error("P10.1: too few expressions of one sort", met)
		}
	}
}

// Derivatives tell the same in quite another way.
func TestAsDerivativesTell(t *testing.T) {
	l, texts, _ := someAsked(3, 1500, 30, 12)
	for i, r := range l {
		all, e := deriv.Walk(r, texts[i])
		if e != api.OK {
			continue
		}
		var want []int
		for end, left := range all {
			if null.Null(left) {
				want = append(want, end)
			}
		}
		wantEnds(t, r, texts[i], 0, want)
	}
}

// wantAlike holds an expression to what the other one fits, which is made of it.
func wantAlike(t *testing.T, what string, r, x api.Re, s string) {
	t.Helper()
	for at := range len(s) + 1 {
		if got, want := match.Ends(x, s, at), match.Ends(r, s, at); !slices.Equal(got, want) {
			t.Fatalf("P10.2: Ends of %s of %.300s in %.300q from %d on are %v, not %v", what, show.Text(r), s, at, got, want)
		}
	}
	if match.Fits(x, s) != match.Fits(r, s) {
		t.Fatalf("P10.2: %s of %.300s, or that itself, alone fits %.300q", what, show.Text(r), s)
	}
}

func wantBothAlike(t *testing.T, r api.Re, s string) {
	t.Helper()
	wantAlike(t, "the normal form", r, norm.Norm(r), s)
	x, _, e := read.Read(show.Text(r))
	if e != api.OK {
		t.Fatalf("P10.2: the text isn't read again: %.300s, %v", show.Text(r), e)
	}
	wantAlike(t, "the text, read again,", r, x, s)
}

func TestNormalFormsAndTextsFitTheSame(t *testing.T) {
	texts := allTexts(3, 'a', 'b')
	for _, l := range allOfSize(6, rex.Or(), rex.Then(), class('b'), class('a', 'b')) {
		for _, r := range l {
			for _, s := range texts {
				wantBothAlike(t, r, s)
			}
		}
	}
	for _, c := range []struct{ n, size, long int }{{3000, 40, 12}, {60, 2000, 40}} {
		l, texts, _ := someAsked(int64(c.size+1), c.n, c.size, c.long)
		for i, r := range l {
			wantBothAlike(t, r, texts[i])
		}
	}
}

func TestSeveral(t *testing.T) {
	var pool []api.Re
	for _, text := range []string{"[]", "()", "a", "a*", "ab", "(ab)*", "a|ab", "b*|a", "(a|b)*", "[ab][ab]", "(aa|bb)*", "a[]"} {
		pool = append(pool, readOne(t, text))
	}
	pool = append(pool, smallWrongOnes()[:4]...)
	texts := allTexts(3, 'a', 'b')
	r := rand.New(rand.NewSource(4))
	met := map[string]int{}
	for i := range 20000 {
		l, some := make([]api.Re, i%6), make([]string, i/6%4)
		for k := range l {
			l[k] = pool[r.Intn(len(pool))]
		}
		for k := range some {
			some[k] = texts[r.Intn(len(texts))]
		}
		s := texts[r.Intn(len(texts))]
		first, ok := 0, false
		for k := len(l) - 1; k >= 0; k-- {
			if rex.May(l[k]) && fitsPlainly(l[k], s) {
				first, ok = k, true
			}
		}
		if k, got := match.Any(s, l...); k != first || got != ok {
			t.Fatalf("P10.1: Any of %q and %d expressions is %d, %v, not %d, %v:\n%s", s, len(l), k, got, first, ok, show.Lines(l...))
		}
		one := pool[r.Intn(len(pool))]
		all := rex.May(one)
		for _, x := range some {
			all = all && fitsPlainly(one, x)
		}
		if match.Fits(one, some...) != all {
			t.Fatalf("P10.1: Fits of %s and %q is %v", show.Text(one), some, !all)
		}
		met[fmt.Sprint("any ", min(first, 2), ok)]++
		met[fmt.Sprint("fits ", min(len(some), 2), all)]++
	}
	for _, sort := range []string{"any 0 false", "any 0 true", "any 1 true", "any 2 true", "fits 0 true", "fits 0 false", "fits 1 true", "fits 1 false", "fits 2 true", "fits 2 false"} {
		if met[sort] < 100 {
			t.Error("P10.1: too few lists of one sort", met)
		}
	}
}

func TestNone(t *testing.T) {
	for _, r := range []api.Re{rex.Or(), rex.Then(), class('a'), letters(1000, 'a')} {
		if !match.Fits(r) || !match.Fits(r, []string{}...) || !match.Fits(r, []string(nil)...) {
			t.Error("P10.1, P0.4: Fits of no texts, and", show.Text(r))
		}
	}
	for _, l := range [][]api.Re{nil, {}} {
		if i, ok := match.Any("", l...); i != 0 || ok {
			t.Error("P10.1, P0.4: Any of none is", i, ok)
		}
	}
}

func TestNilKidsAreNoKids(t *testing.T) {
	for _, bare := range []api.Re{{Kind: api.Empty}, {Kind: api.Eps}, class('a')} {
		r := bare
		r.Kids = []api.Re{}
		for _, pair := range [][2]api.Re{{r, bare}, {tower(1, r), tower(1, bare)}, {node(api.Seq, tower(1, r), r), node(api.Seq, tower(1, bare), bare)}} {
			if !slices.Equal(match.Ends(pair[0], "aab", 0), match.Ends(pair[1], "aab", 0)) || match.Fits(pair[0], "a") != match.Fits(pair[1], "a") {
				t.Error("P0.4: no kids aren't the same as nil ones, of kind", r.Kind)
			}
		}
	}
}

// upTo are all places from one to another one.
func upTo(from, to int) []int {
	var out []int
	for at := from; at <= to; at++ {
		out = append(out, at)
	}
	return out
}

// Whatever stands in one another, or one behind the other: each of these would take far too long if places were gone on from again and again.
func TestEndsSoon(t *testing.T) {
	a, aOrA := class('a'), node(api.Alt, class('a'), class('a'))
	oneOrTwo := node(api.Alt, a, letters(2, 'a'))
	nested, tangled, inSeq := a, a, a
	for range 300 {
		nested = node(api.Star, node(api.Seq, a, nested))
		tangled = node(api.Star, node(api.Alt, node(api.Star, tangled), a))
		inSeq = node(api.Star, node(api.Seq, node(api.Star, a), inSeq))
	}
	for _, c := range []struct {
		what        string
		r           api.Re
		least, most int
	}{
		{"1999 Stars", tower(1999, a), 0, 1000}, {"1999 Stars of Eps", tower(1999, rex.Then()), 0, 0},
		{"Stars in one another", nested, 0, 1000}, {"tangled Stars", tangled, 0, 1000}, {"Stars in one another, behind Stars", inSeq, 0, 1000},
		{"600 Stars in a row", comb(api.Seq, false, slices.Repeat([]api.Re{tower(1, a)}, 600)...), 0, 1000},
		{"600 Stars in a row, nested left", comb(api.Seq, true, slices.Repeat([]api.Re{tower(1, a)}, 600)...), 0, 1000},
		{"400 times a or a, and a Star", comb(api.Seq, false, append(slices.Repeat([]api.Re{aOrA}, 400), tower(1, a))...), 400, 1000},
		{"300 times a or two", comb(api.Seq, false, slices.Repeat([]api.Re{oneOrTwo}, 300)...), 300, 600},
		{"a Star of one of 900", tower(1, comb(api.Alt, false, slices.Repeat([]api.Re{a}, 900)...)), 0, 1000},
		{"a Star of one of 900, nested left", tower(1, comb(api.Alt, true, slices.Repeat([]api.Re{a}, 900)...)), 0, 1000},
	} {
		if !rex.May(c.r) {
			t.Fatal("may not be:", c.what)
		}
		s := strings.Repeat("a", 1000)
		wantEnds(t, c.r, s, 0, upTo(c.least, c.most))
		// From a later place on, and up to where the text's sort of bytes ends.
		wantEnds(t, c.r, "aab"+s+"b"+s, 3, upTo(3+c.least, 3+c.most))
		wantFits(t, c.r, s+"b", false)
	}
}

func TestAtTheMostNodes(t *testing.T) {
	row := letters(1000, 'a')
	s := strings.Repeat("a", 2500)
	wantEnds(t, row, s, 0, []int{1000})
	wantEnds(t, row, s, 1500, []int{2500})
	wantEnds(t, row, s, 1501, nil)
	full := tower(1, row)
	if rex.Size(full) != 2000 {
		t.Fatal("not of the most nodes:", rex.Size(full))
	}
	wantEnds(t, full, s, 0, []int{0, 1000, 2000})
	wantEnds(t, full, s, 500, []int{500, 1500, 2500})
	wantFits(t, full, s, false)
	wantFits(t, full, s[:2000], true)
	for _, left := range []bool{false, true} {
		wantEnds(t, comb(api.Seq, left, slices.Repeat([]api.Re{class('a')}, 1000)...), s, 3, []int{1003})
		wantEnds(t, comb(api.Alt, left, append(slices.Repeat([]api.Re{class('b')}, 999), class('a'))...), s, 3, []int{4})
		over := comb(api.Seq, left, slices.Repeat([]api.Re{class('a')}, 1001)...)
		wantEnds(t, over, s, 0, nil)
		wantFits(t, over, s[:1001], false)
	}
	wantFits(t, tower(1, full), "", false)
}

func TestLongTexts(t *testing.T) {
	const n = 1 << 20
	s := strings.Repeat("ab", n/2)
	pairs := readOne(t, "(ab)*")
	var even []int
	for at := 0; at <= n; at += 2 {
		even = append(even, at)
	}
	wantEnds(t, pairs, s, 0, even)
	wantEnds(t, pairs, s, 1, []int{1})
	wantEnds(t, pairs, s, n, []int{n})
	wantFits(t, pairs, s, true)
	wantFits(t, pairs, s+"a", false)
	wantEnds(t, readOne(t, ".*"), s, 7, upTo(7, n))
	wantEnds(t, readOne(t, ".*b"), s+"aaa", 5, even[3:])
	// What isn't reached costs nothing: each place of a long text may be asked.
	pair := rex.Word("ab")
	for at := range n {
		want := 2 - at%2*2
		if k, ok := match.Longest(pair, s, at); k != want || ok != (want > 0) {
			t.Fatal("P10.1: Longest of ab in a long text from", at, "on is", k, ok)
		}
	}
}

// Nodes may share their memory: each of them is a node for itself all the same.
func TestSharedMemory(t *testing.T) {
	star := tower(1, class('a'))
	two := []api.Re{star, class('b')}
	x := api.Re{Kind: api.Seq, Kids: two}
	y := api.Re{Kind: api.Alt, Kids: two}
	for _, r := range []api.Re{
		node(api.Seq, x, x), node(api.Alt, x, y), node(api.Seq, node(api.Star, y), node(api.Seq, star, x)),
		node(api.Star, node(api.Seq, y, x)), node(api.Seq, y, node(api.Seq, y, y)), node(api.Alt, node(api.Seq, x, y), node(api.Seq, y, x)),
	} {
		for _, s := range allTexts(6, 'a', 'b') {
			if got, want := match.Ends(r, s, 0), match.Ends(copyOf(r), s, 0); !slices.Equal(got, want) || !slices.Equal(got, machineOf(r).ends(s, 0)) {
				t.Fatalf("P10.1: Ends of %s, with shared memory, in %q are %v, not %v", show.Text(r), s, got, want)
			}
		}
	}
}

// smallWrongOnes may not be, each of them for another node.
func smallWrongOnes() []api.Re {
	a := class('a')
	return []api.Re{
		{}, {Kind: 7}, {Kind: 255}, {Kind: api.Class},
		{Kind: api.Eps, Set: set.Of(0)},
		{Kind: api.Empty, Set: everyByte},
		{Kind: api.Star, Set: set.Of('a'), Kids: []api.Re{a}},
		{Kind: api.Seq, Set: set.Of('a'), Kids: []api.Re{a, a}},
		node(api.Empty, a), node(api.Eps, rex.Then()), node(api.Class, a),
		{Kind: api.Class, Set: set.Of('a'), Kids: []api.Re{a}},
		node(api.Seq), node(api.Seq, a), node(api.Seq, a, a, a),
		node(api.Alt), node(api.Alt, rex.Then()), node(api.Alt, a, a, a),
		node(api.Star), node(api.Star, a, a), node(api.Star, api.Re{}),
		// Whether these fit is told without a look at the wrong nodes.
		node(api.Seq, rex.Or(), api.Re{}), node(api.Alt, rex.Then(), api.Re{}), node(api.Alt, a, api.Re{Kind: api.Class}),
	}
}

// wrongOnes are these, and such with too many nodes, some of them without end.
func wrongOnes() []api.Re {
	a := class('a')
	round := []api.Re{{Kind: api.Star}}
	round[0].Kids = round
	grown := a
	for range 60 {
		grown = node(api.Alt, grown, grown)
	}
	return append(smallWrongOnes(),
		tower(2000, a), tower(2000, rex.Or()), tower(65535, a),
		letters(1001, 'a'),
		comb(api.Seq, true, slices.Repeat([]api.Re{rex.Then()}, 1001)...),
		comb(api.Alt, true, slices.Repeat([]api.Re{a}, 1001)...),
		node(api.Alt, make([]api.Re, 1<<20)...),
		round[0], grown,
	)
}

// wantNothing holds all calls to what is told of one that may not be.
func wantNothing(t *testing.T, what string, r api.Re) {
	t.Helper()
	if match.Fits(r) || match.Fits(r, "", "a") {
		t.Errorf("P0.1, P10.1: Fits is true, %s", what)
	}
	for _, s := range []string{"", "a", "b", "ab", "\x00\xff"} {
		for _, at := range []int{-1, 0, 1, 3, math.MaxInt, math.MinInt} {
			l := match.Ends(r, s, at)
			n, ok := match.Longest(r, s, at)
			if len(l) > 0 || n != 0 || ok {
				t.Errorf("P0.1, P10.1: Ends in %q from %d on are %v, and Longest %d, %v, %s", s, at, l, n, ok, what)
			}
		}
		if i, ok := match.Any(s, r, r); i != 0 || ok || match.Fits(r, s) {
			t.Errorf("P0.1, P10.1: Any is %d, %v, or Fits true, %s", i, ok, what)
		}
		if i, ok := match.Any(s, r, tower(1, api.Re{Kind: api.Class, Set: everyByte}), r); i != 1 || !ok {
			t.Errorf("P0.1, P10.1: Any with one that fits behind it is %d, %v, %s", i, ok, what)
		}
	}
}

func TestWhatMayNotBe(t *testing.T) {
	for i, r := range wrongOnes() {
		wantNothing(t, fmt.Sprint("of the wrong one ", i), r)
	}
}

func TestWrongNodesEverywhere(t *testing.T) {
	for _, text := range []string{"(a|b*)()([]|(abc)*)", "(a|())*", "[]|a[]", "()()|()*", "[](a|b)c", "a*b*c"} {
		good := readOne(t, text)
		for i := range nodes(&good) {
			for _, wrong := range []api.Re{{}, {Kind: 7}, {Kind: api.Class}, {Kind: api.Eps, Set: set.Of(0)}, node(api.Alt), node(api.Star, class('a'), class('b'))} {
				x := copyOf(good)
				*nodes(&x)[i] = wrong
				wantNothing(t, fmt.Sprintf("of %s with %v at the node %d", text, wrong, i), x)
			}
		}
	}
}

func TestLongLists(t *testing.T) {
	const n = 1 << 16
	l := slices.Repeat([]api.Re{class('b')}, n)
	if i, ok := match.Any("a", l...); i != 0 || ok {
		t.Error("P0.1, P10.1: Any of 65536, none of which fits, is", i, ok)
	}
	l[n-1] = class('a')
	if i, ok := match.Any("a", l...); i != n-1 || !ok {
		t.Error("P0.1, P10.1: Any of 65536, of which the last one fits, is", i, ok)
	}
	some := slices.Repeat([]string{"abab"}, n)
	r := readOne(t, "(ab)*")
	if !match.Fits(r, some...) {
		t.Error("P0.1, P10.1: Fits of 65536")
	}
	some[n-1] = "aba"
	if match.Fits(r, some...) {
		t.Error("P0.1, P10.1: Fits of 65536, the last one of which isn't fitted")
	}
}

// answers are what all calls answer of an expression and a text.
func answers(r api.Re, s string) string {
	var b strings.Builder
	for at := range len(s) + 3 {
		n, ok := match.Longest(r, s, at-1)
		fmt.Fprintln(&b, len(match.Ends(r, s, at-1)), match.Ends(r, s, at-1), n, ok)
	}
	i, ok := match.Any(s, rex.Or(), r, r)
	fmt.Fprintln(&b, match.Fits(r), match.Fits(r, s), match.Fits(r, "", s, s), i, ok)
	return b.String()
}

func TestWhatIsHandedInStays(t *testing.T) {
	room := []api.Re{tower(1, class('a')), class('a'), {Kind: api.Empty}, class('b'), {Kind: 77}, {Kind: 78}}
	before := dump(room...)
	match.Any("aab", room[:4]...)
	for _, kind := range []uint8{api.Seq, api.Alt} {
		x := api.Re{Kind: kind, Kids: room[:2]}
		answers(x, "aab")
		answers(node(api.Alt, x, api.Re{Kind: api.Eps, Kids: room[:0]}), "ab")
		answers(node(api.Seq, x, api.Re{Kind: api.Star, Kids: room[3:4]}), "ab")
	}
	if dump(room...) != before {
		t.Error("P0.3: a list that was handed in has changed, or the room behind its end", room)
	}
	some := []string{"a", "aa", "b", "c"}
	match.Fits(room[0], some[:3]...)
	if !slices.Equal(some, []string{"a", "aa", "b", "c"}) {
		t.Error("P0.3: a list of texts has changed", some)
	}
	l, texts, _ := someAsked(5, 300, 100, 10)
	for i, x := range l {
		before := dump(x)
		answers(x, texts[i])
		if dump(x) != before {
			t.Fatal("P0.3: an expression that was handed in has changed", show.Text(x))
		}
	}
}

func TestAnswersAreNewMemory(t *testing.T) {
	l, texts, places := someAsked(6, 500, 40, 10)
	for i, x := range l {
		before := dump(x)
		first, second := match.Ends(x, texts[i], places[i]), match.Ends(x, texts[i], places[i])
		want := slices.Clone(second)
		room := first[:cap(first)]
		for k := range room {
			room[k] = -7
		}
		if !slices.Equal(second, want) || !slices.Equal(match.Ends(x, texts[i], places[i]), want) || dump(x) != before {
			t.Fatal("P0.3: what was written into an answer is seen elsewhere", show.Text(x))
		}
	}
}

func TestNothingIsKept(t *testing.T) {
	l, texts, _ := someAsked(7, 300, 60, 10)
	for i, x := range l {
		answers(x, texts[i])
		for _, n := range nodes(&x) {
			n.Set, n.Kids, n.Kind = api.Set{}, nil, api.Empty
		}
		if answers(x, texts[i]) != answers(rex.Or(), texts[i]) {
			t.Fatal("P0.3, P0.5: what is told of an expression hangs on what it was before")
		}
	}
}

func TestAnswersStayTheSame(t *testing.T) {
	l, texts, _ := someAsked(8, 300, 200, 10)
	for _, x := range append(wrongOnes(), tower(1999, class('a'))) {
		l, texts = append(l, x), append(texts, "ab")
	}
	var first []string
	for i, x := range l {
		first = append(first, answers(x, texts[i]))
	}
	for i := len(l) - 1; i >= 0; i-- {
		if answers(l[i], texts[i]) != first[i] || answers(l[i], texts[i]) != first[i] {
			t.Fatalf("P0.5: of the expression %d is told otherwise later", i)
		}
	}
}
