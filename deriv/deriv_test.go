package deriv_test

import (
	"fmt"
	"maps"
	"math"
	"math/rand"
	"slices"
	"strings"
	"testing"

	"quill/api"
	"quill/deriv"
	"quill/norm"
	"quill/null"
	"quill/read"
	"quill/rex"
	"quill/set"
	"quill/show"
)

const mostNodes = 2000

var everyByte = api.Set{math.MaxUint64, math.MaxUint64, math.MaxUint64, math.MaxUint64}

func class(l ...byte) api.Re { return api.Re{Kind: api.Class, Set: set.Of(l...)} }

func node(kind uint8, kids ...api.Re) api.Re { return api.Re{Kind: kind, Kids: kids} }

// letters is a row of a letter.
func letters(n int, c byte) api.Re { return rex.Word(strings.Repeat(string([]byte{c}), n)) }

// readOne is for texts that are of the form.
func readOne(t *testing.T, text string) api.Re {
	t.Helper()
	r, _, e := read.Read(text)
	if e != api.OK {
		t.Fatal("not read:", text)
	}
	return r
}

// dump writes every node of an expression out, so that two dumps are alike just if the expressions are, node by node.
func dump(l ...api.Re) string {
	var b strings.Builder
	dumpTo(&b, l)
	return b.String()
}

func dumpTo(b *strings.Builder, l []api.Re) {
	for _, r := range l {
		fmt.Fprintf(b, "%d %x{", r.Kind, r.Set)
		dumpTo(b, r.Kids)
		b.WriteString("}")
	}
}

// copyOf is the same expression, in memory of its own.
func copyOf(r api.Re) api.Re {
	out := api.Re{Kind: r.Kind, Set: r.Set}
	for _, kid := range r.Kids {
		out.Kids = append(out.Kids, copyOf(kid))
	}
	return out
}

// nodes are all nodes of an expression, by their places.
func nodes(r *api.Re) []*api.Re {
	out := []*api.Re{r}
	for i := range r.Kids {
		out = append(out, nodes(&r.Kids[i])...)
	}
	return out
}

// tower is a leaf with Stars around it.
func tower(height int, leaf api.Re) api.Re {
	for range height {
		leaf = node(api.Star, leaf)
	}
	return leaf
}

// comb is a chain of nodes with two kids, the second one (or the first one, if it is nested left) of them the chain's rest.
func comb(kind uint8, left bool, l ...api.Re) api.Re {
	if left {
		out := l[0]
		for _, x := range l[1:] {
			out = node(kind, out, x)
		}
		return out
	}
	out := l[len(l)-1]
	for i := len(l) - 2; i >= 0; i-- {
		out = node(kind, l[i], out)
	}
	return out
}

func has(s api.Set, b byte) bool { return s[b/64]>>(b%64)&1 == 1 }

// isNull is what chapter 7 says.
func isNull(r api.Re) bool {
	switch r.Kind {
	case 2, 6:
		return true
	case 4:
		return isNull(r.Kids[0]) && isNull(r.Kids[1])
	case 5:
		return isNull(r.Kids[0]) || isNull(r.Kids[1])
	}
	return false
}

// plain is what the chapter says of the derivative, whatever its size.
func plain(r api.Re, b byte) api.Re {
	switch r.Kind {
	case 3:
		if has(r.Set, b) {
			return node(2)
		}
	case 4:
		x, y := r.Kids[0], r.Kids[1]
		if isNull(x) {
			return node(5, node(4, plain(x, b), y), plain(y, b))
		}
		return node(4, plain(x, b), y)
	case 5:
		return node(5, plain(r.Kids[0], b), plain(r.Kids[1], b))
	case 6:
		return node(4, plain(r.Kids[0], b), r)
	}
	return node(1)
}

// plainSize is how many nodes the derivative has, by whichever byte: found without making it.
func plainSize(r api.Re) int {
	switch r.Kind {
	case 4:
		n := 1 + plainSize(r.Kids[0]) + rex.Size(r.Kids[1])
		if isNull(r.Kids[0]) {
			n += 1 + plainSize(r.Kids[1])
		}
		return n
	case 5:
		return 1 + plainSize(r.Kids[0]) + plainSize(r.Kids[1])
	case 6:
		return 1 + plainSize(r.Kids[0]) + rex.Size(r)
	}
	return 1
}

// limitedPlain, limitedStep and walked are what the chapter says of Plain, Step and Walk.
func limitedPlain(r api.Re, b byte) (api.Re, api.Errno) {
	if plainSize(r) > mostNodes {
		return api.Re{}, api.ErrLimit
	}
	return plain(r, b), api.OK
}

func limitedStep(r api.Re, b byte) (api.Re, api.Errno) {
	d, e := limitedPlain(norm.Norm(r), b)
	return norm.Norm(d), e
}

func walked(r api.Re, s string) ([]api.Re, api.Errno) {
	out := []api.Re{norm.Norm(r)}
	for i := 0; i < len(s); i++ {
		x, e := limitedStep(out[i], s[i])
		if e != api.OK {
			return nil, e
		}
		out = append(out, x)
	}
	return out, api.OK
}

func wantOne(t *testing.T, call string, got, want api.Re, e, wanted api.Errno) {
	t.Helper()
	if e != wanted || dump(got) != dump(want) {
		t.Fatalf("P9.1: %.300s is %.300s, %v; not %.300s, %v", call, show.Text(got), e, show.Text(want), wanted)
	}
}

// wantBy holds Plain and Step of one byte to the chapter.
func wantBy(t *testing.T, r api.Re, b byte) {
	t.Helper()
	text := fmt.Sprintf(" of %.300s by %d", show.Text(r), b)
	got, e := deriv.Plain(r, b)
	want, wanted := limitedPlain(r, b)
	wantOne(t, "Plain"+text, got, want, e, wanted)
	got, e = deriv.Step(r, b)
	want, wanted = limitedStep(r, b)
	wantOne(t, "Step"+text, got, want, e, wanted)
}

// wantWalk holds Walk and Word of one text to the chapter, and tells what Walk should be, and is.
func wantWalk(t *testing.T, r api.Re, s string) ([]api.Re, api.Errno) {
	t.Helper()
	text := fmt.Sprintf(" of %.300s and %.300q", show.Text(r), s)
	want, wanted := walked(r, s)
	got, e := deriv.Walk(r, s)
	if e != wanted || dump(got...) != dump(want...) {
		t.Fatalf("P9.1: Walk%s is\n%.600s%v; not\n%.600s%v", text, show.Lines(got...), e, show.Lines(want...), wanted)
	}
	var last api.Re
	if wanted == api.OK {
		last = want[len(s)]
	}
	x, e := deriv.Word(r, s)
	wantOne(t, "Word"+text, x, last, e, wanted)
	return want, wanted
}

// texts are all texts of at most so many bytes that an expression fits, by the words of chapter 3 alone.
func texts(r api.Re, most int) map[string]bool {
	out := map[string]bool{}
	switch r.Kind {
	case 2:
		out[""] = true
	case 3:
		for b := range 256 {
			if most > 0 && has(r.Set, byte(b)) {
				out[string([]byte{byte(b)})] = true
			}
		}
	case 4:
		return behind(texts(r.Kids[0], most), texts(r.Kids[1], most), most)
	case 5:
		maps.Copy(out, texts(r.Kids[0], most))
		maps.Copy(out, texts(r.Kids[1], most))
	case 6:
		kid := texts(r.Kids[0], most)
		out[""] = true
		for n := 0; n < len(out); {
			n = len(out)
			maps.Copy(out, behind(out, kid, most))
		}
	}
	return out
}

// behind are all texts of the first ones with one of the second ones behind them.
func behind(l, m map[string]bool, most int) map[string]bool {
	out := map[string]bool{}
	for s := range l {
		for t := range m {
			if len(s)+len(t) <= most {
				out[s+t] = true
			}
		}
	}
	return out
}

// machine has places and ways between them, with a byte of a set or without a byte: a text leads from the place 0 to the place 1 just if the expression fits it.
type machine [][]way

type way struct {
	to   int
	free bool
	set  api.Set
}

func machineOf(r api.Re) machine {
	m := machine{nil, nil}
	m.build(r, 0, 1)
	return m
}

func (m *machine) place() int {
	*m = append(*m, nil)
	return len(*m) - 1
}

func (m *machine) lay(from int, w way) { (*m)[from] = append((*m)[from], w) }

func (m *machine) build(r api.Re, from, to int) {
	switch r.Kind {
	case 2:
		m.lay(from, way{to: to, free: true})
	case 3:
		m.lay(from, way{to: to, set: r.Set})
	case 4:
		mid := m.place()
		m.build(r.Kids[0], from, mid)
		m.build(r.Kids[1], mid, to)
	case 5:
		m.build(r.Kids[0], from, to)
		m.build(r.Kids[1], from, to)
	case 6:
		in, back := m.place(), m.place()
		m.lay(from, way{to: in, free: true})
		m.lay(back, way{to: in, free: true})
		m.lay(in, way{to: to, free: true})
		m.build(r.Kids[0], in, back)
	}
}

func (m machine) begin() []int { return m.reached([]int{0}) }

// reached are these places, and those to which ways without a byte lead.
func (m machine) reached(l []int) []int {
	met := make([]bool, len(m))
	var out []int
	for len(l) > 0 {
		p := l[len(l)-1]
		l = l[:len(l)-1]
		if met[p] {
			continue
		}
		met[p] = true
		out = append(out, p)
		for _, w := range m[p] {
			if w.free {
				l = append(l, w.to)
			}
		}
	}
	return out
}

func (m machine) step(at []int, b byte) []int {
	var next []int
	for _, p := range at {
		for _, w := range m[p] {
			if !w.free && has(w.set, b) {
				next = append(next, w.to)
			}
		}
	}
	return m.reached(next)
}

// leadingOn are some bytes that lead on from these places, one a way.
func (m machine) leadingOn(r *rand.Rand, at []int) []byte {
	var out []byte
	for _, p := range at {
		for _, w := range m[p] {
			if !w.free {
				l := set.Bytes(w.set)
				out = append(out, l[r.Intn(len(l))])
			}
		}
	}
	return out
}

// someText goes on with bytes that lead on, now and then with any byte, and tells at which fronts the machine is at its end.
func (m machine) someText(r *rand.Rand, n int) (string, []bool) {
	at := m.begin()
	var text []byte
	fits := []bool{slices.Contains(at, 1)}
	for range n {
		b := byte(r.Intn(256))
		if l := m.leadingOn(r, at); len(l) > 0 && r.Intn(30) > 0 {
			b = l[r.Intn(len(l))]
		}
		text = append(text, b)
		at = m.step(at, b)
		fits = append(fits, slices.Contains(at, 1))
	}
	return string(text), fits
}

func TestExamples(t *testing.T) {
	for _, c := range []struct {
		text        string
		b           byte
		plain, step string
	}{
		{"[]", 'a', "[]", "[]"}, {"()", 'a', "[]", "[]"}, {"()", 0, "[]", "[]"},
		{"a", 'a', "()", "()"}, {"a", 'b', "[]", "[]"}, {".", 255, "()", "()"}, {`[\00-\7f]`, 128, "[]", "[]"}, {`[\80-\ff]`, 128, "()", "()"},
		// Seqs: of a first kid that is nullable, and of one that isn't.
		{"ab", 'a', "()b", "b"}, {"ab", 'b', "[]b", "[]"}, {"a[]", 'a', "()[]", "[]"}, {"[]a", 'a', "[]a", "[]"},
		{"()a", 'a', "[]a|()", "()"}, {"()a", 'b', "[]a|[]", "[]"}, {"a()", 'a', "()()", "()"},
		{"a*b", 'a', "(()a*)b|[]", "a*b"}, {"a*b", 'b', "([]a*)b|()", "()"}, {"a*a", 'a', "(()a*)a|()", "()|a*a"},
		{"(a|())b", 'a', "(()|[])b|[]", "b"}, {"(a|())b", 'b', "([]|[])b|()", "()"},
		{"(ab)c", 'a', "(()b)c", "bc"}, {"a*(b*c)", 'a', "(()a*)b*c|([]b*)c|[]", "a*b*c"}, {"(a*b*)c", 'c', "(([]a*)b*|[]b*)c|()", "()"},
		{"(a*b)c", 'b', "(([]a*)b|())c", "c"}, {"(()[])a", 'a', "([][]|[])a", "[]"},
		// Alts.
		{"a|b", 'a', "()|[]", "()"}, {"a|b", 'c', "[]|[]", "[]"}, {"a|ab", 'a', "()|()b", "()|b"}, {"ab|ac", 'a', "()b|()c", "[bc]"}, {"ab|()", 'a', "()b|[]", "b"},
		// Stars.
		{"a*", 'a', "()a*", "a*"}, {"a*", 'b', "[]a*", "[]"}, {"[]*", 'a', "[][]*", "[]"}, {"()*", 'a', "[]()*", "[]"}, {"a**", 'a', "(()a*)a**", "a*"},
		{"(ab)*", 'a', "(()b)(ab)*", "b(ab)*"}, {"(ab|ac)*", 'a', "(()b|()c)(ab|ac)*", "[bc](ab|ac)*"},
	} {
		r := readOne(t, c.text)
		if x, e := deriv.Plain(r, c.b); e != api.OK || show.Text(x) != c.plain {
			t.Errorf("P9.1: Plain of %s by %d is %s, %v", c.text, c.b, show.Text(x), e)
		}
		if x, e := deriv.Step(r, c.b); e != api.OK || show.Text(x) != c.step {
			t.Errorf("P9.1: Step of %s by %d is %s, %v", c.text, c.b, show.Text(x), e)
		}
	}
}

func TestExamplesOfTexts(t *testing.T) {
	for _, c := range []struct{ text, s, walk string }{
		{"(ab)*", "ab", "(ab)* b(ab)* (ab)*"},
		{"a(b|c)*d", "abd", "a[bc]*d [bc]*d [bc]*d ()"},
		{"a(b|c)*d", "abda", "a[bc]*d [bc]*d [bc]*d () []"},
		{"a(b|c)*d", "dab", "a[bc]*d [] [] []"},
		{"()a|[]b|a", "", "a"}, {"()a|[]b|a", "a", "a ()"}, {"()a|[]b|a", "b", "a []"},
		{"()", "", "()"}, {"()", "aa", "() [] []"}, {"[]", "a", "[] []"}, {"[]a", "", "[]"},
		{"(a|ab)(c|bc)", "abc", "(a|ab)(c|bc) (()|b)(c|bc) c|bc ()"},
		// Texts go by bytes: of two that make one sign together, each one is a step.
		{`\c3\a9*`, "\u00e9", `\c3\a9* \a9* \a9*`}, {`(\c3\a9)*\ff`, "\u00e9\xff", `(\c3\a9)*\ff \a9(\c3\a9)*\ff (\c3\a9)*\ff ()`},
		{`\ff\00\80`, "\xff\x00\x80", `\ff\00\80 \00\80 \80 ()`},
	} {
		r := readOne(t, c.text)
		var want []string
		for _, x := range strings.Fields(c.walk) {
			want = append(want, show.Text(norm.Norm(readOne(t, x))))
		}
		got, e := deriv.Walk(r, c.s)
		if e != api.OK || show.Lines(got...) != strings.Join(want, "\n")+"\n" {
			t.Errorf("P9.1: Walk of %s and %q is\n%s%v", c.text, c.s, show.Lines(got...), e)
		}
		if x, e := deriv.Word(r, c.s); e != api.OK || show.Text(x) != want[len(c.s)] {
			t.Errorf("P9.1: Word of %s and %q is %s, %v", c.text, c.s, show.Text(x), e)
		}
	}
}

func TestEveryByte(t *testing.T) {
	all := api.Re{Kind: api.Class, Set: everyByte}
	eps, empty := dump(rex.Then()), dump(rex.Or())
	for a := range 256 {
		one := class(byte(a))
		other := api.Re{Kind: api.Class, Set: set.Less(everyByte, one.Set)}
		for b := range 256 {
			for _, c := range []struct {
				r  api.Re
				in bool
			}{{one, a == b}, {other, a != b}, {all, true}} {
				want := empty
				if c.in {
					want = eps
				}
				x, e := deriv.Plain(c.r, byte(b))
				y, f := deriv.Step(c.r, byte(b))
				if e != api.OK || f != api.OK || dump(x) != want || dump(y) != want {
					t.Fatalf("P9.1: Plain of %s by %d is %s, %v, and Step %s, %v", show.Text(c.r), b, show.Text(x), e, show.Text(y), f)
				}
			}
		}
	}
}

// allOfSize are all expressions of so many nodes, for each number of nodes up to the greatest one, with these leaves.
func allOfSize(most int, leaves ...api.Re) [][]api.Re {
	out := [][]api.Re{nil, leaves}
	for n := 2; n <= most; n++ {
		var l []api.Re
		for _, x := range out[n-1] {
			l = append(l, node(api.Star, x))
		}
		for i := 1; i < n-1; i++ {
			for _, x := range out[i] {
				for _, y := range out[n-1-i] {
					l = append(l, node(api.Seq, x, y), node(api.Alt, x, y))
				}
			}
		}
		out = append(out, l)
	}
	return out
}

func TestAllSmallOnes(t *testing.T) {
	for _, l := range allOfSize(7, rex.Or(), rex.Then(), class('b'), class('a', 255)) {
		for _, r := range l {
			if plainSize(r) != rex.Size(plain(r, 'a')) {
				t.Fatal("the tests' own ways tell otherwise of", show.Text(r))
			}
			for _, b := range []byte{'a', 'b', 'c', 255} {
				wantBy(t, r, b)
			}
		}
	}
}

// allTexts are all texts of these bytes, up to a length.
func allTexts(most int, l ...byte) []string {
	out := []string{""}
	for from := 0; most > 0; most-- {
		for end := len(out); from < end; from++ {
			for _, b := range l {
				out = append(out, out[from]+string([]byte{b}))
			}
		}
	}
	return out
}

func TestSmallOnesFit(t *testing.T) {
	const most = 4
	all := allTexts(most, 'a', 'b')
	for n, l := range allOfSize(6, rex.Or(), rex.Then(), class('b'), class('a', 'b')) {
		for _, r := range l {
			fitted := texts(r, most)
			for _, s := range all {
				x, e := deriv.Word(r, s)
				if e != api.OK || null.Null(x) != fitted[s] {
					t.Fatalf("P9.2: behind %q of %s is left %s, %v", s, show.Text(r), show.Text(x), e)
				}
			}
			if n > 5 {
				continue
			}
			// The same of Plain: it fits a text just if the expression fits the byte and that text behind it.
			for _, b := range []byte{'a', 'b'} {
				x, e := deriv.Plain(r, b)
				left := texts(x, most-1)
				for _, s := range allTexts(most-1, 'a', 'b') {
					if e != api.OK || left[s] != fitted[string([]byte{b})+s] {
						t.Fatalf("P9.1: Plain of %s by %d is %s, %v", show.Text(r), b, show.Text(x), e)
					}
				}
			}
		}
	}
}

// chances are how often the kinds come, of 100: the rest of the inner nodes are Alts, and of the leaves Classes.
type chances struct{ star, seq, empty, eps int }

// ofSize is an expression of just so many nodes.
func (c chances) ofSize(r *rand.Rand, n int) api.Re {
	if n == 1 {
		return c.leaf(r)
	}
	what := r.Intn(100)
	if n == 2 || what < c.star {
		return node(api.Star, c.ofSize(r, n-1))
	}
	kind := api.Alt
	if what < c.star+c.seq {
		kind = api.Seq
	}
	i := 1 + r.Intn(n-2)
	return node(kind, c.ofSize(r, i), c.ofSize(r, n-1-i))
}

func (c chances) leaf(r *rand.Rand) api.Re {
	switch what := r.Intn(100); {
	case what < c.empty:
		return rex.Or()
	case what < c.empty+c.eps:
		return rex.Then()
	case what%7 == 0:
		return class(byte(r.Intn(256)), byte(r.Intn(256)), byte(r.Intn(256)))
	}
	return class("abc\x00\x7f\x80\xff"[r.Intn(7)])
}

// someExpressions is a row, the same one for the same source, of such that may be, up to the most nodes.
func someExpressions(r *rand.Rand, n, most int) []api.Re {
	var out []api.Re
	for range n {
		c := chances{r.Intn(4) * r.Intn(8), 20 + r.Intn(80), r.Intn(3) * r.Intn(5), r.Intn(3) * r.Intn(20)}
		out = append(out, c.ofSize(r, 1+r.Intn(most)))
	}
	return out
}

func TestManyOfAnySize(t *testing.T) {
	r := rand.New(rand.NewSource(9))
	met := map[string]int{}
	for _, c := range []struct{ n, size, length int }{{2000, 12, 12}, {1000, 60, 12}, {200, 500, 6}, {100, 2000, 4}} {
		for _, x := range someExpressions(r, c.n, c.size) {
			s, fits := machineOf(x).someText(r, c.length)
			for i := range min(2, len(s)) {
				wantBy(t, x, s[i])
			}
			l, e := wantWalk(t, x, s)
			met[fmt.Sprint("walks told ", e)]++
			if plainSize(x) > mostNodes {
				met["too great"]++
			}
			for i, left := range l {
				if null.Null(left) != fits[i] {
					t.Fatalf("P9.2: behind %q of %.300s is left %.300s", s[:i], show.Text(x), show.Text(left))
				}
				met[fmt.Sprint("kind ", left.Kind)]++
				met[fmt.Sprint("null ", fits[i])]++
				if rex.Size(left) > 500 {
					met["great"]++
				}
			}
		}
	}
	for _, sort := range []string{"kind 1", "kind 2", "kind 3", "kind 4", "kind 5", "kind 6", "null true", "null false", "great", "too great", "walks told error 0", "walks told error 4"} {
		if met[sort] < 20 {
			t.Error("P9.1: too few expressions of one sort:", sort, met)
		}
	}
}

// wantSize holds Plain by a to a number of nodes, and to none beyond the most nodes.
func wantSize(t *testing.T, what string, r api.Re, size int) {
	t.Helper()
	if !rex.May(r) || plainSize(r) != size {
		t.Fatal("the tests' own ways tell otherwise of", what, rex.Size(r), plainSize(r))
	}
	x, e := deriv.Plain(r, 'a')
	if size > mostNodes {
		wantOne(t, "Plain of "+what, x, api.Re{}, e, api.ErrLimit)
		return
	}
	wantOne(t, "Plain of "+what, x, plain(r, 'a'), e, api.OK)
	if rex.Size(x) != size {
		t.Errorf("P9.1: Plain of %s has %d nodes, not %d", what, rex.Size(x), size)
	}
}

func TestAtTheMostNodes(t *testing.T) {
	a, b := class('a'), class('b')
	ofA, ofB := tower(1, letters(499, 'a')), tower(1, letters(500, 'b'))
	wantSize(t, "a Star of 499", ofA, 1996)
	wantSize(t, "a Star of 500", ofB, 2000)
	wantSize(t, "a Star of 501", tower(1, letters(501, 'a')), 2004)
	wantSize(t, "one of a Star and two", node(api.Alt, ofA, letters(2, 'a')), 2000)
	wantSize(t, "one of a Star and a Star", node(api.Alt, ofA, tower(1, a)), 2001)
	wantSize(t, "one of a Star and a Star, in another row", node(api.Alt, tower(1, a), ofA), 2001)
	// Behind a nullable one the second kid counts twice: itself, and its derivative.
	wantSize(t, "999 behind Eps", node(api.Seq, rex.Then(), letters(499, 'a')), 1997)
	wantSize(t, "2 behind a Star", node(api.Seq, tower(1, letters(497, 'b')), letters(3, 'a')), 2000)
	wantSize(t, "501 behind Eps", node(api.Seq, rex.Then(), letters(501, 'a')), 2005)
	// What isn't nullable has as many nodes behind a byte as ahead of it.
	row := letters(999, 'a')
	wantSize(t, "999 in a row", row, 1997)
	wantSize(t, "998 and a Star", node(api.Seq, a, node(api.Star, letters(999, 'b'))), 2000)
	for _, left := range []bool{false, true} {
		wantSize(t, "1000 in a row", comb(api.Seq, left, slices.Repeat([]api.Re{a}, 1000)...), 1999)
		wantSize(t, "one of 1000", comb(api.Alt, left, slices.Repeat([]api.Re{a}, 1000)...), 1999)
	}
	wantSize(t, "Eps 500 times", comb(api.Seq, true, slices.Repeat([]api.Re{rex.Then()}, 500)...), 1997)
	wantSize(t, "Eps 501 times", comb(api.Seq, true, slices.Repeat([]api.Re{rex.Then()}, 501)...), 2001)
	wantSize(t, "Eps 1000 times", comb(api.Seq, true, slices.Repeat([]api.Re{rex.Then()}, 1000)...), 3997)
	if n := plainSize(tower(1999, a)); n < 2000000 {
		t.Fatal("not as great as told:", n)
	}
	wantSize(t, "1999 Stars", tower(1999, a), plainSize(tower(1999, a)))
	stars := comb(api.Seq, false, slices.Repeat([]api.Re{tower(1, b)}, 666)...)
	wantSize(t, "666 Stars in a row", stars, plainSize(stars))
}

// Where the normal form is nested otherwise, or is simpler, its derivative has more nodes than the expression's, or less.
func TestStepsOfTheNormalForm(t *testing.T) {
	a, b := class('a'), class('b')
	simpler := []struct {
		what string
		r    api.Re
		want string
	}{
		{"1999 Stars", tower(1999, a), "a*"},
		{"Eps 999 times, and a", comb(api.Seq, true, append(slices.Repeat([]api.Re{rex.Then()}, 999), a)...), "()"},
		{"Stars of Empty, and a Star", comb(api.Seq, false, append(slices.Repeat([]api.Re{tower(1, rex.Or())}, 600), tower(1, a))...), "a*"},
		{"a Star 300 times, or itself", comb(api.Alt, true, slices.Repeat([]api.Re{tower(3, a)}, 300)...), "a*"},
	}
	for _, c := range simpler {
		if x, e := deriv.Plain(c.r, 'a'); e != api.ErrLimit || dump(x) != dump(api.Re{}) {
			t.Errorf("P9.1: Plain of %s is %.300s, %v", c.what, show.Text(x), e)
		}
		if x, e := deriv.Step(c.r, 'a'); e != api.OK || show.Text(x) != c.want {
			t.Errorf("P9.1: Step of %s is %.300s, %v", c.what, show.Text(x), e)
		}
		wantWalk(t, c.r, "a")
	}
	// Nested left, what stands behind a Star and b counts once; nested right, twice.
	for n, want := range map[int]api.Errno{498: api.OK, 499: api.ErrLimit, 600: api.ErrLimit} {
		r := comb(api.Seq, true, tower(1, a), b, letters(n, 'c'))
		if _, e := deriv.Plain(r, 'a'); e != api.OK {
			t.Error("P9.1: Plain of a Star, b and many c is", e)
		}
		wantBy(t, r, 'a')
		x, e := deriv.Step(r, 'a')
		if e != want || e != api.OK && dump(x) != dump(api.Re{}) {
			t.Errorf("P9.1: Step of a Star, b and %d c is %.300s, %v", n, show.Text(x), e)
		}
	}
}

func TestFirstError(t *testing.T) {
	// Behind c is left what has too many nodes behind any byte; behind d nothing is left, and behind e little.
	great := comb(api.Seq, false, tower(1, class('a')), class('b'), letters(600, 'c'))
	r := rex.Or(rex.Then(class('c'), great), rex.Then(class('e'), rex.Many(class('e'))))
	if e := limitOf(great, 'x'); e != api.ErrLimit {
		t.Fatal("not as great as told:", e)
	}
	for _, c := range []struct {
		s    string
		want api.Errno
		left string
	}{
		{"", api.OK, show.Text(norm.Norm(r))}, {"c", api.OK, show.Text(great)},
		{"ca", api.ErrLimit, ""}, {"cb", api.ErrLimit, ""}, {"cx", api.ErrLimit, ""}, {"cab", api.ErrLimit, ""}, {"cxxxxxxxxx", api.ErrLimit, ""},
		{"d", api.OK, "[]"}, {"dca", api.OK, "[]"}, {"e", api.OK, "e*"}, {"eee", api.OK, "e*"}, {"eeca", api.OK, "[]"},
	} {
		l, e := wantWalk(t, r, c.s)
		if e != c.want || e == api.OK && show.Text(l[len(c.s)]) != c.left {
			t.Errorf("the tests' own ways tell otherwise of %q: %v", c.s, e)
		}
		got, e := deriv.Walk(r, c.s)
		if e != c.want || e != api.OK && got != nil {
			t.Errorf("P0.2, P9.1: Walk of %q is %d expressions, %v", c.s, len(got), e)
		}
		if x, e := deriv.Word(r, c.s); e != c.want || show.Text(x) != c.left {
			t.Errorf("P0.2, P9.1: Word of %q is %.300s, %v", c.s, show.Text(x), e)
		}
	}
}

func limitOf(r api.Re, b byte) api.Errno {
	_, e := limitedStep(r, b)
	return e
}

func TestFronts(t *testing.T) {
	r := rand.New(rand.NewSource(10))
	for _, x := range someExpressions(r, 300, 40) {
		s, _ := machineOf(x).someText(r, 8)
		all, e := deriv.Walk(x, s)
		if e != api.OK {
			continue
		}
		if len(all) != len(s)+1 {
			t.Fatalf("P9.1: Walk of %s and %q is %d expressions", show.Text(x), s, len(all))
		}
		for i, left := range all {
			// What is left behind a front, gone on from, is what is left behind the whole.
			front, e := deriv.Walk(x, s[:i])
			wantOne(t, "the last one of Walk", front[i], left, e, api.OK)
			behind, e := deriv.Word(left, s[i:])
			wantOne(t, "Word of what is left", behind, all[len(s)], e, api.OK)
			if !norm.Is(left) {
				t.Fatalf("P9.1: behind %q of %s is left %s, no normal form", s[:i], show.Text(x), show.Text(left))
			}
		}
	}
}

func TestLongTexts(t *testing.T) {
	const n = 1 << 16
	r := readOne(t, "(ab)*")
	left := []string{dump(r), dump(readOne(t, "b(ab)*"))}
	s := strings.Repeat("ab", n/2)
	all, e := deriv.Walk(r, s)
	if e != api.OK || len(all) != n+1 {
		t.Fatal("P0.1, P9.1: Walk of a long text:", len(all), e)
	}
	for i, x := range all {
		if dump(x) != left[i%2] {
			t.Fatal("P0.1, P9.1: Walk of a long text, at", i)
		}
	}
	x, e := deriv.Word(r, s)
	wantOne(t, "Word of a long text", x, r, e, api.OK)
	x, e = deriv.Word(r, s+"a"+s)
	wantOne(t, "Word of a long text that isn't fitted", x, rex.Or(), e, api.OK)
	// 1000 bytes, fitted at their end alone.
	row := letters(1000, 'a')
	all, e = deriv.Walk(row, strings.Repeat("a", 1001))
	if e != api.OK || len(all) != 1002 {
		t.Fatal("P0.1, P9.1: Walk of 1001 bytes:", len(all), e)
	}
	for i, x := range all {
		if null.Null(x) != (i == 1000) || i < 1000 && rex.Size(x) != 2*(1000-i)-1 {
			t.Fatal("P9.2: behind bytes of 1000:", i, rex.Size(x))
		}
	}
}

func TestNilKidsAreNoKids(t *testing.T) {
	for _, bare := range []api.Re{{Kind: api.Empty}, {Kind: api.Eps}, class('a')} {
		r := bare
		r.Kids = []api.Re{}
		for _, pair := range [][2]api.Re{{r, bare}, {tower(1, r), tower(1, bare)}, {node(api.Seq, tower(1, r), r), node(api.Seq, tower(1, bare), bare)}} {
			for _, b := range []byte("ab") {
				x, e := deriv.Plain(pair[0], b)
				wantOne(t, "P0.4: Plain of one without kids", x, plain(pair[1], b), e, api.OK)
				x, e = deriv.Step(pair[0], b)
				want, _ := limitedStep(pair[1], b)
				wantOne(t, "P0.4: Step of one without kids", x, want, e, api.OK)
			}
		}
	}
}

// smallWrongOnes may not be, each of them for another node.
func smallWrongOnes() []api.Re {
	a := class('a')
	return []api.Re{
		{}, {Kind: 7}, {Kind: 255}, {Kind: api.Class},
		{Kind: api.Eps, Set: set.Of(0)},
		{Kind: api.Empty, Set: everyByte},
		{Kind: api.Star, Set: set.Of('a'), Kids: []api.Re{a}},
		{Kind: api.Seq, Set: set.Of('a'), Kids: []api.Re{a, a}},
		node(api.Empty, a), node(api.Eps, rex.Then()), node(api.Class, a),
		{Kind: api.Class, Set: set.Of('a'), Kids: []api.Re{a}},
		node(api.Seq), node(api.Seq, a), node(api.Seq, a, a, a),
		node(api.Alt), node(api.Alt, rex.Then()), node(api.Alt, a, a, a),
		node(api.Star), node(api.Star, a, a), node(api.Star, api.Re{}),
		// The derivatives of these have none of the wrong nodes.
		node(api.Seq, a, api.Re{}), node(api.Seq, rex.Or(), api.Re{}), node(api.Alt, rex.Then(), api.Re{}), node(api.Alt, a, api.Re{Kind: api.Class}),
	}
}

// wrongOnes are these, and such with too many nodes, some of them without end.
func wrongOnes() []api.Re {
	a := class('a')
	round := []api.Re{{Kind: api.Star}}
	round[0].Kids = round
	grown := a
	for range 60 {
		grown = node(api.Alt, grown, grown)
	}
	return append(smallWrongOnes(),
		tower(2000, a), tower(2000, rex.Or()), tower(65535, a),
		letters(1001, 'a'),
		comb(api.Seq, true, slices.Repeat([]api.Re{rex.Then()}, 1001)...),
		comb(api.Alt, true, slices.Repeat([]api.Re{rex.Or()}, 1001)...),
		node(api.Alt, make([]api.Re, 1<<20)...),
		round[0], grown,
	)
}

// wantArg holds all calls to what is told of one that may not be.
func wantArg(t *testing.T, what string, r api.Re) {
	t.Helper()
	for _, b := range []byte{0, 'a', 'b', 255} {
		x, e := deriv.Plain(r, b)
		y, f := deriv.Step(r, b)
		if e != api.ErrArg || f != api.ErrArg || dump(x, y) != dump(api.Re{}, api.Re{}) {
			t.Errorf("P0.1, P0.2, P9.1: Plain by %d is %.99v, %v, and Step %.99v, %v, %s", b, x, e, y, f, what)
		}
	}
	for _, s := range []string{"", "a", "b", "ab", "\x00\xff"} {
		x, e := deriv.Word(r, s)
		l, f := deriv.Walk(r, s)
		if e != api.ErrArg || f != api.ErrArg || dump(x) != dump(api.Re{}) || l != nil {
			t.Errorf("P0.1, P0.2, P9.1: Word of %q is %.99v, %v, and Walk %.99v, %v, %s", s, x, e, l, f, what)
		}
	}
}

func TestWhatMayNotBe(t *testing.T) {
	for i, r := range wrongOnes() {
		wantArg(t, fmt.Sprint("of the wrong one ", i), r)
	}
	// ErrArg is named ahead of ErrLimit, that applies, too.
	wantArg(t, "of many Stars of a wrong one", tower(1998, api.Re{}))
	wantArg(t, "of many Stars, and a wrong one", comb(api.Seq, false, append(slices.Repeat([]api.Re{tower(1, class('a'))}, 600), api.Re{})...))
}

func TestWrongNodesEverywhere(t *testing.T) {
	for _, text := range []string{"(a|b*)()([]|(abc)*)", "(a|())*", "[]|a[]", "()()|()*", "[](a|b)c", "a*b*c"} {
		good := readOne(t, text)
		for i := range nodes(&good) {
			for _, wrong := range []api.Re{{}, {Kind: 7}, {Kind: api.Class}, {Kind: api.Eps, Set: set.Of(0)}, node(api.Alt), node(api.Star, class('a'), class('b'))} {
				x := copyOf(good)
				*nodes(&x)[i] = wrong
				wantArg(t, fmt.Sprintf("of %s with %v at the node %d", text, wrong, i), x)
			}
		}
	}
}

// answers are what all calls answer of an expression and a text.
func answers(r api.Re, s string) [][]api.Re {
	var out [][]api.Re
	for _, b := range []byte(s) {
		x, _ := deriv.Plain(r, b)
		y, _ := deriv.Step(r, b)
		out = append(out, []api.Re{x}, []api.Re{y})
	}
	x, _ := deriv.Word(r, s)
	y, _ := deriv.Word(r, "")
	all, _ := deriv.Walk(r, s)
	none, _ := deriv.Walk(r, "")
	return append(out, []api.Re{x}, []api.Re{y}, all, none)
}

// someAsked are expressions, each with a text that leads on.
func someAsked(t *testing.T, n, most int) ([]api.Re, []string) {
	r := rand.New(rand.NewSource(11))
	l := someExpressions(r, n, most)
	// Such that are left as they are, or are parts of what is left, are nearest to being answered themselves.
	for _, text := range []string{"a", "()", "[]", "a*", "a*b", "abc", "a|ab|a*", "(ab)*", "(ab|a*)(b|c*)*", "a**", "(a*b*)*c"} {
		l = append(l, readOne(t, text))
	}
	var texts []string
	for _, x := range l {
		s, _ := machineOf(x).someText(r, 3)
		texts = append(texts, s)
	}
	return l, texts
}

func TestWhatIsHandedInStays(t *testing.T) {
	room := []api.Re{tower(1, class('a')), class('a'), {Kind: api.Empty}, class('b'), {Kind: 77}, {Kind: 78}}
	before := dump(room...)
	for _, kind := range []uint8{api.Seq, api.Alt} {
		x := api.Re{Kind: kind, Kids: room[:2]}
		answers(x, "aab")
		answers(node(api.Alt, x, api.Re{Kind: api.Eps, Kids: room[:0]}), "ab")
		answers(node(api.Seq, x, api.Re{Kind: api.Star, Kids: room[3:4]}), "ab")
	}
	if dump(room...) != before {
		t.Error("P0.3: a list that was handed in has changed, or the room behind its end", room)
	}
	l, texts := someAsked(t, 300, 100)
	for i, x := range l {
		before := dump(x)
		answers(x, texts[i])
		if dump(x) != before {
			t.Fatal("P0.3: an expression that was handed in has changed", show.Text(x))
		}
	}
}

// spoil writes into every node, and into the room behind every list's end.
func spoil(l []api.Re) {
	for i := range l {
		spoil(l[i].Kids)
		l[i] = api.Re{Kind: 99}
	}
	room := l[:cap(l)]
	for i := len(l); i < len(room); i++ {
		room[i] = api.Re{Kind: 98}
	}
}

func TestAnswersAreNewMemory(t *testing.T) {
	l, texts := someAsked(t, 200, 40)
	for i, x := range l {
		before := dump(x)
		var want []string
		for _, a := range answers(x, texts[i]) {
			want = append(want, dump(a...))
		}
		for k := range want {
			// The others are there already when one is written into, so that memory that both have would be seen.
			all := answers(x, texts[i])
			spoil(all[k])
			for n, a := range all {
				if n != k && dump(a...) != want[n] {
					t.Fatal("P0.3: what was written into one answer is in another one", show.Text(x))
				}
			}
			if dump(x) != before {
				t.Fatal("P0.3: what was written into an answer is in what was handed in", show.Text(x))
			}
		}
		for n, a := range answers(x, texts[i]) {
			if dump(a...) != want[n] {
				t.Fatal("P0.3, P0.5: what was written into an answer is in a later one", show.Text(x))
			}
		}
	}
}

func TestRoomBehindAnEmptyListIsNotHandedOn(t *testing.T) {
	for _, kind := range []uint8{api.Empty, api.Eps, api.Class} {
		room := []api.Re{class('b'), class('c')}
		x := api.Re{Kind: kind, Kids: room[:0]}
		if kind == api.Class {
			x.Set = set.Of('a')
		}
		for _, y := range []api.Re{x, tower(1, x), node(api.Seq, class('a'), x), node(api.Seq, tower(1, x), x)} {
			for _, a := range answers(y, "ab") {
				spoil(a)
				if dump(room...) != dump(class('b'), class('c')) {
					t.Fatal("P0.3: the room behind an empty list is in an answer, of kind", kind)
				}
			}
		}
	}
}

// No two lists of one answer share memory: what is written into one node is seen there alone. What is left of a Star holds that Star, and what is left behind two bytes may hold it twice.
func TestListsOfOneAnswerAreApart(t *testing.T) {
	l, texts := someAsked(t, 200, 60)
	for _, text := range []string{"(a*)*", "(a*b*)*", "((a|b)*c*)*(a|b)", "(ab*|a)*(ab)*"} {
		l, texts = append(l, readOne(t, text)), append(texts, "aa")
	}
	for i, x := range l {
		for _, a := range answers(x, texts[i]) {
			whole := node(0, a...)
			all := nodes(&whole)
			for k, n := range all {
				n.Set[0] = uint64(k)
			}
			for k, n := range all {
				if n.Set[0] != uint64(k) {
					t.Fatal("P0.3: two lists of one answer share memory, of", show.Text(x))
				}
			}
		}
	}
}

func TestNothingIsKept(t *testing.T) {
	l, texts := someAsked(t, 200, 60)
	for i, x := range l {
		kept := answers(x, texts[i])
		var before []string
		for _, a := range kept {
			before = append(before, dump(a...))
		}
		for _, n := range nodes(&x) {
			n.Set, n.Kids, n.Kind = api.Set{}, nil, api.Empty
		}
		left, e := deriv.Word(x, texts[i])
		wantOne(t, "Word of what is Empty now", left, rex.Or(), e, api.OK)
		for k, a := range kept {
			if dump(a...) != before[k] {
				t.Fatal("P0.3: an answer has changed with what was handed in")
			}
		}
	}
}

func TestAnswersStayTheSame(t *testing.T) {
	l, texts := someAsked(t, 300, 200)
	for _, x := range append(wrongOnes(), tower(1999, class('a')), tower(1, letters(501, 'a'))) {
		l, texts = append(l, x), append(texts, "ab")
	}
	told := func(i int) string {
		_, e := deriv.Walk(l[i], texts[i])
		_, f := deriv.Plain(l[i], 'a')
		return fmt.Sprint(e, f) + dump(slices.Concat(answers(l[i], texts[i])...)...)
	}
	var first []string
	for i := range l {
		first = append(first, told(i))
	}
	for i := len(l) - 1; i >= 0; i-- {
		if told(i) != first[i] || told(i) != first[i] {
			t.Fatalf("P0.5: of the expression %d is told otherwise later", i)
		}
	}
}
