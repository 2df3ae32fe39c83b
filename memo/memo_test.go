package memo_test

import (
	"fmt"
	"math"
	"math/rand"
	"slices"
	"strings"
	"testing"

	"quill/api"
	"quill/memo"
	"quill/norm"
	"quill/read"
	"quill/rex"
	"quill/set"
	"quill/show"
)

var everyByte = api.Set{math.MaxUint64, math.MaxUint64, math.MaxUint64, math.MaxUint64}

func class(l ...byte) api.Re { return api.Re{Kind: api.Class, Set: set.Of(l...)} }

func node(kind uint8, kids ...api.Re) api.Re { return api.Re{Kind: kind, Kids: kids} }

// letters is a row of a letter.
func letters(n int, c byte) api.Re { return rex.Word(strings.Repeat(string([]byte{c}), n)) }

// readOne is for texts that are of the form.
func readOne(t *testing.T, text string) api.Re {
	t.Helper()
	r, _, e := read.Read(text)
	if e != api.OK {
		t.Fatal("not read:", text)
	}
	return r
}

func readAll(t *testing.T, texts ...string) []api.Re {
	t.Helper()
	var out []api.Re
	for _, text := range texts {
		out = append(out, readOne(t, text))
	}
	return out
}

// dump writes every node of an expression out, so that two dumps are alike just if the expressions are, node by node.
func dump(l ...api.Re) string {
	var b strings.Builder
	dumpTo(&b, l)
	return b.String()
}

func dumpTo(b *strings.Builder, l []api.Re) {
	for _, r := range l {
		fmt.Fprintf(b, "%d %x{", r.Kind, r.Set)
		dumpTo(b, r.Kids)
		b.WriteString("}")
	}
}

// copyOf is the same expression, in memory of its own.
func copyOf(r api.Re) api.Re {
	out := api.Re{Kind: r.Kind, Set: r.Set}
	for _, kid := range r.Kids {
		out.Kids = append(out.Kids, copyOf(kid))
	}
	return out
}

// nodes are all nodes of an expression, by their places.
func nodes(r *api.Re) []*api.Re {
	out := []*api.Re{r}
	for i := range r.Kids {
		out = append(out, nodes(&r.Kids[i])...)
	}
	return out
}

// tower is a leaf with Stars around it.
func tower(height int, leaf api.Re) api.Re {
	for range height {
		leaf = node(api.Star, leaf)
	}
	return leaf
}

// comb is a chain of nodes with two kids, the second one (or the first one, if it is nested left) of them the chain's rest.
func comb(kind uint8, left bool, l ...api.Re) api.Re {
	if left {
		out := l[0]
		for _, x := range l[1:] {
			out = node(kind, out, x)
		}
		return out
	}
	out := l[len(l)-1]
	for i := len(l) - 2; i >= 0; i-- {
		out = node(kind, l[i], out)
	}
	return out
}

// told is a memo, and beside it what it must answer: its normal forms, written out node by node, in a list and by their numbers.
type told struct {
	t          *testing.T
	m          *memo.Memo
	most       int
	forms      []string
	numbers    map[string]int
	asked, met int
}

func newTold(t *testing.T, room int) *told {
	return &told{t: t, m: memo.New(room), most: min(max(room, 0), 10000), numbers: map[string]int{}}
}

// number is what is told of one that is asked for.
func (w *told) number(r api.Re) (int, bool) {
	if !rex.May(r) {
		return 0, false
	}
	i, ok := w.numbers[dump(norm.Norm(r))]
	w.asked++
	if ok {
		w.met++
	}
	return i, ok
}

func (w *told) numberOrNew(r api.Re) (int, bool) {
	i, ok := w.number(r)
	if ok || !rex.May(r) || len(w.forms) == w.most {
		return i, ok
	}
	form := dump(norm.Norm(r))
	i = len(w.forms)
	w.forms = append(w.forms, form)
	w.numbers[form] = i
	return i, true
}

func (w *told) put(l ...api.Re) (int, bool) {
	w.t.Helper()
	want, wantOK := 0, false
	for _, r := range l {
		want, wantOK = w.numberOrNew(r)
	}
	i, ok := w.m.Put(l...)
	if i != want || ok != wantOK {
		w.t.Fatalf("P11.1: Put is %d, %v, not %d, %v, of these, in a memo of %d with room for %d in all:\n%s", i, ok, want, wantOK, w.m.Len(), w.most, show.Lines(l...))
	}
	w.counts()
	return i, ok
}

func (w *told) find(r api.Re) (int, bool) {
	w.t.Helper()
	want, wantOK := w.number(r)
	i, ok := w.m.Find(r)
	if i != want || ok != wantOK {
		w.t.Fatalf("P11.1: Find of %s is %d, %v, not %d, %v", show.Text(r), i, ok, want, wantOK)
	}
	w.counts()
	return i, ok
}

// counts holds Len, Room and Asked to what was told.
func (w *told) counts() {
	w.t.Helper()
	asked, met := w.m.Asked()
	if w.m.Len() != len(w.forms) || w.m.Room() != w.most-len(w.forms) || asked != w.asked || met != w.met {
		w.t.Fatalf("P11.1: Len, Room and Asked are %d, %d, %d and %d, not %d, %d, %d and %d", w.m.Len(), w.m.Room(), asked, met, len(w.forms), w.most-len(w.forms), w.asked, w.met)
	}
}

// all holds every number to what it was when it was given, and asks beside them.
func (w *told) all() {
	w.t.Helper()
	for i, form := range w.forms {
		r, ok := w.m.At(i)
		if !ok || dump(r) != form {
			w.t.Fatalf("P11.1, P11.2: At of %d is %s, %v, no more what has this number", i, show.Text(r), ok)
		}
	}
	n := len(w.forms)
	for _, i := range []int{-1, -2, n, n + 1, w.most, 10000, 1 << 32, -1 << 32, math.MaxInt, math.MinInt} {
		if i >= 0 && i < n {
			continue
		}
		if r, ok := w.m.At(i); ok || dump(r) != dump(api.Re{}) {
			w.t.Fatalf("P11.1: At of %d, of %d, is %s, %v", i, n, show.Text(r), ok)
		}
	}
	w.counts()
}

func TestNumbersOfLimits(t *testing.T) {
	if api.MaxStates != 10000 || api.MaxNodes != 2000 {
		t.Error("T6: limits are", api.MaxStates, api.MaxNodes)
	}
}

func TestExample(t *testing.T) {
	m := memo.New(5)
	if i, ok := m.Put(readAll(t, "a|b", "[ab]")...); i != 0 || !ok || m.Len() != 1 || m.Room() != 4 {
		t.Error("P11.1: Put of a|b and [ab] is", i, ok, "and there are", m.Len())
	}
	if asked, met := m.Asked(); asked != 2 || met != 1 {
		t.Error("P11.1: Asked is", asked, met)
	}
}

func TestExamples(t *testing.T) {
	m := memo.New(3)
	for k, c := range []struct {
		put        []string
		i          int
		ok         bool
		n          int
		asked, met int
	}{
		{nil, 0, false, 0, 0, 0},
		{[]string{"ab"}, 0, true, 1, 1, 0},
		{[]string{"a()b"}, 0, true, 1, 2, 1},
		{[]string{"c*", "ab"}, 0, true, 2, 4, 2},
		{[]string{"ab", "c**"}, 1, true, 2, 6, 4},
		{[]string{"b|a*|[]", "(c|c)*"}, 1, true, 3, 8, 5},
		{[]string{"a*|b"}, 2, true, 3, 9, 6},
		// No more room: what has no number gets none, and those behind it are told all the same.
		{[]string{"a"}, 0, false, 3, 10, 6},
		{[]string{"a", "a*|b"}, 2, true, 3, 12, 7},
		{[]string{"a*|b", "a"}, 0, false, 3, 14, 8},
		{[]string{"a", "a", "a"}, 0, false, 3, 17, 8},
		{nil, 0, false, 3, 17, 8},
	} {
		i, ok := m.Put(readAll(t, c.put...)...)
		asked, met := m.Asked()
		if i != c.i || ok != c.ok || m.Len() != c.n || m.Room() != 3-c.n || asked != c.asked || met != c.met {
			t.Errorf("P11.1: the call %d, Put of %q, is %d, %v; Len %d, Room %d, Asked %d, %d", k, c.put, i, ok, m.Len(), m.Room(), asked, met)
		}
	}
	for i, text := range []string{"ab", "c*", "b|a*"} {
		r, ok := m.At(i)
		if !ok || show.Text(r) != text {
			t.Errorf("P11.1: At of %d is %s, %v, not %s", i, show.Text(r), ok, text)
		}
		if k, ok := m.Find(r); k != i || !ok {
			t.Errorf("P11.1: Find of %s is %d, %v", text, k, ok)
		}
	}
	if i, ok := m.Find(readOne(t, "a")); i != 0 || ok {
		t.Error("P11.1: Find of what has no number is", i, ok)
	}
}

func TestRoom(t *testing.T) {
	for _, c := range [][2]int{
		{0, 0}, {-1, 0}, {-10000, 0}, {math.MinInt, 0}, {math.MinInt32, 0}, {-1 << 32, 0},
		{1, 1}, {2, 2}, {9999, 9999}, {10000, 10000}, {10001, 10000}, {1 << 32, 10000}, {1<<32 + 1, 10000}, {math.MaxInt, 10000},
	} {
		w := newTold(t, c[0])
		if w.m.Room() != c[1] || w.m.Len() != 0 {
			t.Errorf("P11.1: New of %d has %d, and room for %d", c[0], w.m.Len(), w.m.Room())
		}
		w.all()
	}
}

func TestWithoutRoom(t *testing.T) {
	for _, room := range []int{0, -1, math.MinInt} {
		w := newTold(t, room)
		for range 3 {
			for _, r := range append(readAll(t, "[]", "()", "a", "a*"), api.Re{}) {
				w.put(r)
				w.put(r, r)
				w.find(r)
				w.all()
			}
		}
		if w.m.Len() != 0 || w.asked != 48 || w.met != 0 {
			t.Error("P11.1: a memo without room has", w.m.Len(), "and was asked", w.asked, w.met)
		}
	}
}

// Every row of calls, of up to four of these, in memos of little room.
func TestEveryRowOfCalls(t *testing.T) {
	a, alt, ab, wrong := readOne(t, "a"), readOne(t, "a|b"), readOne(t, "[ab]"), node(api.Star)
	calls := []func(w *told){
		func(w *told) { w.put() },
		func(w *told) { w.put(a) },
		func(w *told) { w.put(alt) },
		func(w *told) { w.put(ab, a) },
		func(w *told) { w.put(a, wrong, rex.Then()) },
		func(w *told) { w.put(rex.Then(), wrong) },
		func(w *told) { w.put(wrong, rex.Or()) },
		func(w *told) { w.put(rex.Or(), rex.Then(), a, ab) },
		func(w *told) { w.find(a) },
		func(w *told) { w.find(ab) },
		func(w *told) { w.find(wrong) },
	}
	rows := 0
	for room := range 5 {
		for row := range 11 * 11 * 11 * 11 {
			w := newTold(t, room)
			for range 4 {
				calls[row%11](w)
				row /= 11
			}
			w.all()
			rows++
		}
	}
	if rows != 73205 {
		t.Error("P11.1: too few rows of calls:", rows)
	}
}

// allOfSize are all expressions of so many nodes, for each number of nodes up to the greatest one, with these leaves.
func allOfSize(most int, leaves ...api.Re) [][]api.Re {
	out := [][]api.Re{nil, leaves}
	for n := 2; n <= most; n++ {
		var l []api.Re
		for _, x := range out[n-1] {
			l = append(l, node(api.Star, x))
		}
		for i := 1; i < n-1; i++ {
			for _, x := range out[i] {
				for _, y := range out[n-1-i] {
					l = append(l, node(api.Seq, x, y), node(api.Alt, x, y))
				}
			}
		}
		out = append(out, l)
	}
	return out
}

func TestAllSmallOnes(t *testing.T) {
	all := slices.Concat(allOfSize(7, rex.Or(), rex.Then(), class('b'), class('a', 'b'))...)
	all = append(all, slices.Concat(allOfSize(6, class('a'), class('b'), class('c'), rex.Then())...)...)
	w := newTold(t, 10000)
	for _, r := range all {
		if i, ok := w.put(r); !ok || i >= w.m.Len() {
			t.Fatalf("P11.1: Put of %s, with room, is %d, %v", show.Text(r), i, ok)
		}
	}
	w.all()
	if n := w.m.Len(); n < 1000 || n > len(all)/10 {
		t.Error("P11.1: too few small ones are alike, or unlike:", n, "of", len(all))
	}
	for i := len(all) - 1; i >= 0; i-- {
		w.find(all[i])
	}
	w.put(all...)
	w.all()
}

// Each set of one byte, and each set without one, is unlike all others, and unlike all that are no sets.
func TestEveryByte(t *testing.T) {
	w := newTold(t, 10000)
	for b := range 256 {
		one := class(byte(b))
		for k, r := range []api.Re{one, tower(1, one), node(api.Seq, one, one), node(api.Seq, one, tower(1, one)), rex.Of(set.Less(everyByte, one.Set))} {
			if i, ok := w.put(r); i != 5*b+k || !ok {
				t.Fatalf("P11.1: Put of %s, the %dth one, is %d, %v", show.Text(r), 5*b+k, i, ok)
			}
		}
	}
	for k, r := range []api.Re{{Kind: api.Class, Set: everyByte}, rex.Or(), rex.Then()} {
		if i, ok := w.put(r); i != 5*256+k || !ok {
			t.Fatalf("P11.1: Put of %s is %d, %v", show.Text(r), i, ok)
		}
	}
	w.all()
}

// Whoever told expressions by the texts that they fit, or by a part of their nodes, would take some of these for the same.
func TestUnlikeOnes(t *testing.T) {
	l := readAll(t,
		"aa*", "a*a", "a*", "a*a*", "a|a*", "()|a*", "(()|a)*", "(aa|a)*", "(a*)b*", "(a*b*)*", "(ab)*", "(a|b*)*", "[ab]*",
		"a(b|cd)", "ab|acd", "a(bc)*", "(ab)*c", "(ab)*c*", "a[bc]*", "(a[bc])*", "[]", "()", `\28\29`, `\5b\5d`, `\2a`, `\7c`, `\2d`, "[a-c]", `[a\2dc]`, `a\2dc`, "[ac]", "ac", ".", `\2e`, `[\00-\fe]`,
	)
	w := newTold(t, len(l))
	for i, r := range l {
		if k, ok := w.put(r); k != i || !ok {
			t.Errorf("P11.1: Put of %s, the %dth one, is %d, %v", show.Text(r), i, k, ok)
		}
	}
	if i, ok := w.put(readOne(t, "x")); ok {
		t.Error("P11.1: Put without room is", i, ok)
	}
	w.all()
}

func TestAlikeOnes(t *testing.T) {
	for _, texts := range [][]string{
		{"[]", "[][]", "a[]", "[]a*", "[]|[]", "(a|b)[]c"},
		{"()", "()()", "()*", "[]*", "()**", "()|()", "[]|()", "(()|[])*"},
		{"abc", "(ab)c", "a()bc", "((a)b)()c", "abc|[]", "abc|abc", "(a|[])bc"},
		{"a*", "a**", "a***", "(a|a)*", "(a*|[])*", "a*|a*", "()a*"},
		{"[ab]|ab", "ab|a|b", "b|ab|a", "(ab|b)|a", "ab|[ab]|ab|a"},
		{"c*|d*|ef", "ef|d*|c*", "d*|(c*|ef)", "(ef|d*)|c*|ef"},
	} {
		w := newTold(t, 10)
		w.put(readOne(t, "xyz"))
		for _, r := range readAll(t, texts...) {
			if i, ok := w.put(r); i != 1 || !ok {
				t.Errorf("P11.1: Put of %s, alike %s, is %d, %v", show.Text(r), texts[0], i, ok)
			}
		}
		w.all()
	}
}

func TestTheMostStates(t *testing.T) {
	w := newTold(t, math.MaxInt)
	one := func(i int) api.Re { return rex.Word(fmt.Sprint(i)) }
	for i := range 10000 {
		if k, ok := w.put(one(i)); k != i || !ok {
			t.Fatalf("P11.1: Put of %d is %d, %v", i, k, ok)
		}
	}
	if w.m.Len() != 10000 || w.m.Room() != 0 {
		t.Error("P11.1: behind 10000 there are", w.m.Len(), "and room for", w.m.Room())
	}
	for _, i := range []int{10000, 10001, 99999} {
		if k, ok := w.put(one(i)); k != 0 || ok {
			t.Errorf("P11.1: Put of %d, behind 10000, is %d, %v", i, k, ok)
		}
	}
	w.all()
	for i := range 10000 {
		k, ok := w.find(one(i))
		again, there := w.put(one(-7), node(api.Alt, one(i), one(i)))
		if k != i || !ok || again != i || !there {
			t.Fatalf("P11.2: the number of %d is %d, %v, and then %d, %v", i, k, ok, again, there)
		}
	}
	w.all()
}

// From call to call each number that was ever told is asked for again.
func TestNumbersNeverChange(t *testing.T) {
	l := someExpressions(rand.New(rand.NewSource(2)), 400, 30)
	m := memo.New(150)
	numbers := map[string]int{}
	for at, r := range l {
		if at%3 == 0 {
			m.Find(r)
		}
		if i, ok := m.Put(r, api.Re{}, r); ok {
			key := dump(norm.Norm(r))
			if had, there := numbers[key]; there && had != i {
				t.Fatalf("P11.2: the number of %s was %d, and is %d", show.Text(r), had, i)
			}
			numbers[key] = i
		}
		if m.Len() != len(numbers) || m.Room() != 150-len(numbers) {
			t.Fatalf("P11.2: there are %d, with room for %d, and %d numbers were told", m.Len(), m.Room(), len(numbers))
		}
		for _, old := range l[:at+1] {
			want, there := numbers[dump(norm.Norm(old))]
			i, ok := m.Find(old)
			form, _ := m.At(i)
			if i != want || ok != there || ok && dump(form) != dump(norm.Norm(old)) {
				t.Fatalf("P11.2: the number of %s was %d, %v, and is %d, %v", show.Text(old), want, there, i, ok)
			}
		}
	}
	if len(numbers) != 150 {
		t.Error("P11.2: the memo wasn't filled:", len(numbers))
	}
}

// chances are how often, of so many, a node of two kids is an Alt, and a leaf is Empty or Eps.
type chances struct{ alts, empties, epses int }

// ofSize is an expression of n nodes.
func (c chances) ofSize(r *rand.Rand, n int) api.Re {
	switch {
	case n == 1:
		return c.leaf(r)
	case n == 2 || r.Intn(6) == 0:
		return node(api.Star, c.ofSize(r, n-1))
	}
	kind := api.Seq
	if r.Intn(10) < c.alts {
		kind = api.Alt
	}
	left := 1 + r.Intn(n-2)
	return node(kind, c.ofSize(r, left), c.ofSize(r, n-1-left))
}

func (c chances) leaf(r *rand.Rand) api.Re {
	switch n := r.Intn(100); {
	case n < c.empties:
		return rex.Or()
	case n < c.empties+c.epses:
		return rex.Then()
	case n < 90:
		return class(byte('a' + r.Intn(4)))
	}
	return class(byte(r.Intn(256)), byte('a'+r.Intn(4)), byte(r.Intn(256)))
}

// someExpressions are such that may be, of any number of nodes up to the greatest one, often alike.
func someExpressions(r *rand.Rand, n, most int) []api.Re {
	var out []api.Re
	for len(out) < n {
		c := chances{r.Intn(11), r.Intn(30), r.Intn(40)}
		x := c.ofSize(r, 1+r.Intn(most))
		out = append(out, x)
		if k := r.Intn(3); k > 0 && rex.Size(x) < most-1 {
			out = append(out, []api.Re{node(api.Alt, x, rex.Or()), node(api.Seq, rex.Then(), x)}[k-1])
		}
	}
	return out[:n]
}

func TestManyRowsOfCalls(t *testing.T) {
	r := rand.New(rand.NewSource(1))
	sorts := map[string]int{}
	for _, c := range []struct{ memos, calls, pool, size int }{{400, 60, 60, 12}, {60, 200, 300, 60}, {6, 60, 40, 2000}} {
		for range c.memos {
			l := append(someExpressions(r, c.pool, c.size), smallWrongOnes()[:c.pool/15]...)
			w := newTold(t, r.Intn(c.pool/2)-1)
			for range c.calls {
				some := make([]api.Re, r.Intn(5))
				for k := range some {
					some[k] = l[r.Intn(len(l))]
				}
				if len(some) == 1 && r.Intn(2) == 0 {
					_, ok := w.find(some[0])
					sorts[fmt.Sprint("find ", ok)]++
					continue
				}
				_, ok := w.put(some...)
				sorts[fmt.Sprintf("put %d %v %v", min(len(some), 2), ok, w.m.Room() > 0)]++
			}
			w.all()
		}
	}
	for _, sort := range []string{"find true", "find false", "put 0 false true", "put 0 false false", "put 1 true true", "put 1 true false", "put 1 false true", "put 1 false false", "put 2 true true", "put 2 true false", "put 2 false true", "put 2 false false"} {
		if sorts[sort] < 50 {
			t.Error("P11.1: too few calls of one sort", sort, sorts)
		}
	}
}

func TestAtTheMostNodes(t *testing.T) {
	a := class('a')
	full := tower(1, letters(1000, 'a'))
	if rex.Size(full) != 2000 {
		t.Fatal("not of the most nodes:", rex.Size(full))
	}
	w := newTold(t, 100)
	for _, left := range []bool{false, true} {
		for _, kind := range []uint8{api.Seq, api.Alt} {
			row := slices.Repeat([]api.Re{a}, 1000)
			w.put(comb(kind, left, row...))
			w.put(tower(1, comb(kind, left, row...)))
			w.put(comb(kind, left, append(row, a)...))
			w.put(comb(kind, left, append(row[:999], class('b'))...))
		}
	}
	w.put(full)
	w.put(tower(1, full))
	w.put(tower(1999, a))
	w.put(tower(2000, a))
	w.put(tower(65535, a))
	w.all()
	// a, [ab] and a*; and aa.. and its Star, and ..ab: each nested in both ways.
	if w.m.Len() != 6 {
		t.Error("P11.1: of the great ones there are", w.m.Len())
	}
}

// Texts of these have far more bytes than MaxText, and are unlike at their ends, at their beginnings or in between.
func TestLongTexts(t *testing.T) {
	var every2nd api.Set
	for b := 0; b < 256; b += 2 {
		every2nd = set.Join(every2nd, set.Of(byte(b)))
	}
	w := newTold(t, 100)
	for i, place := range []int{0, 1, 2, 500, 700, 997, 998, 999} {
		l := slices.Repeat([]api.Re{rex.Of(every2nd)}, 1000)
		l[place] = rex.Of(set.Less(everyByte, every2nd))
		r := rex.Then(l...)
		if show.Fits(r) {
			t.Fatal("this one's text isn't long")
		}
		if k, ok := w.put(r); k != i || !ok {
			t.Errorf("P11.1: Put of the long one %d is %d, %v", i, k, ok)
		}
		w.find(r)
	}
	w.all()
}

func TestNilKidsAreNoKids(t *testing.T) {
	w := newTold(t, 10)
	for i, bare := range []api.Re{{Kind: api.Empty}, {Kind: api.Eps}, class('a')} {
		r := bare
		r.Kids = []api.Re{}
		k, _ := w.put(r)
		n, _ := w.put(bare)
		if k != i || n != i {
			t.Error("P0.4: no kids aren't the same as nil ones:", k, n)
		}
	}
	w.put([]api.Re{}...)
	w.put([]api.Re(nil)...)
	w.all()
}

func TestLongLists(t *testing.T) {
	const n = 1 << 16
	l := slices.Repeat([]api.Re{class('b')}, n)
	w := newTold(t, 2)
	w.put(l...)
	l[n-1] = class('a')
	if i, ok := w.put(l...); i != 1 || !ok {
		t.Error("P0.1, P11.1: Put of 65536 is", i, ok)
	}
	l[n-1] = api.Re{}
	if i, ok := w.put(l...); i != 0 || ok {
		t.Error("P0.1, P11.1: Put of 65536, the last one wrong, is", i, ok)
	}
	w.all()
}

// smallWrongOnes may not be, each of them for another node.
func smallWrongOnes() []api.Re {
	a := class('a')
	return []api.Re{
		{}, {Kind: 7}, {Kind: 255}, {Kind: api.Class},
		{Kind: api.Eps, Set: set.Of(0)},
		{Kind: api.Empty, Set: everyByte},
		{Kind: api.Star, Set: set.Of('a'), Kids: []api.Re{a}},
		{Kind: api.Seq, Set: set.Of('a'), Kids: []api.Re{a, a}},
		node(api.Empty, a), node(api.Eps, rex.Then()), node(api.Class, a),
		{Kind: api.Class, Set: set.Of('a'), Kids: []api.Re{a}},
		node(api.Seq), node(api.Seq, a), node(api.Seq, a, a, a),
		node(api.Alt), node(api.Alt, rex.Then()), node(api.Alt, a, a, a),
		node(api.Star), node(api.Star, a, a), node(api.Star, api.Re{}),
		node(api.Seq, rex.Or(), api.Re{}), node(api.Alt, rex.Then(), api.Re{}), node(api.Alt, a, api.Re{Kind: api.Class}),
	}
}

// wrongOnes are these, and such with too many nodes, some of them without end.
func wrongOnes() []api.Re {
	a := class('a')
	round := []api.Re{{Kind: api.Star}}
	round[0].Kids = round
	grown := a
	for range 60 {
		grown = node(api.Alt, grown, grown)
	}
	return append(smallWrongOnes(),
		tower(2000, a), tower(2000, rex.Or()), tower(65535, a),
		letters(1001, 'a'),
		comb(api.Seq, true, slices.Repeat([]api.Re{rex.Then()}, 1001)...),
		comb(api.Alt, true, slices.Repeat([]api.Re{a}, 1001)...),
		node(api.Alt, make([]api.Re, 1<<20)...),
		round[0], grown,
	)
}

// wantNoNumber holds a memo that has a alone, and room, to what is told of one that may not be.
func wantNoNumber(t *testing.T, what string, r api.Re) {
	t.Helper()
	m := memo.New(10)
	m.Put(class('a'))
	for _, l := range [][]api.Re{{r}, {r, r}, {class('a'), r}} {
		if i, ok := m.Put(l...); i != 0 || ok {
			t.Errorf("P0.1, P11.1: Put is %d, %v, %s", i, ok, what)
		}
	}
	if i, ok := m.Find(r); i != 0 || ok {
		t.Errorf("P0.1, P11.1: Find is %d, %v, %s", i, ok, what)
	}
	if asked, met := m.Asked(); asked != 2 || met != 1 || m.Len() != 1 || m.Room() != 9 {
		t.Errorf("P11.1: Asked is %d, %d, and there are %d, %s", asked, met, m.Len(), what)
	}
	if i, ok := m.Put(r, class('b')); i != 1 || !ok || m.Len() != 2 {
		t.Errorf("P11.1: Put with a good one behind it is %d, %v, %s", i, ok, what)
	}
}

func TestWhatMayNotBe(t *testing.T) {
	for i, r := range wrongOnes() {
		wantNoNumber(t, fmt.Sprint("of the wrong one ", i), r)
	}
}

func TestWrongNodesEverywhere(t *testing.T) {
	for _, text := range []string{"(a|b*)()([]|(abc)*)", "(a|())*", "[]|a[]", "()()|()*", "[](a|b)c", "a*b*c"} {
		good := readOne(t, text)
		for i := range nodes(&good) {
			for _, wrong := range []api.Re{{}, {Kind: 7}, {Kind: api.Class}, {Kind: api.Eps, Set: set.Of(0)}, node(api.Alt), node(api.Star, class('a'), class('b'))} {
				x := copyOf(good)
				*nodes(&x)[i] = wrong
				wantNoNumber(t, fmt.Sprintf("of %s with %v at the node %d", text, wrong, i), x)
			}
		}
	}
}

func TestNilMemo(t *testing.T) {
	var m *memo.Memo
	for range 3 {
		for _, r := range append(wrongOnes(), class('a'), rex.Or(), rex.Then(), letters(1000, 'a')) {
			for _, l := range [][]api.Re{nil, {r}, {r, class('a')}} {
				if i, ok := m.Put(l...); i != 0 || ok {
					t.Error("P0.1, P11.1: Put of a nil memo is", i, ok)
				}
			}
			if i, ok := m.Find(r); i != 0 || ok {
				t.Error("P0.1, P11.1: Find of a nil memo is", i, ok)
			}
		}
		for _, i := range []int{0, 1, -1, 10000, math.MaxInt, math.MinInt} {
			if r, ok := m.At(i); ok || dump(r) != dump(api.Re{}) {
				t.Error("P0.1, P11.1: At of a nil memo is", r, ok)
			}
		}
		if asked, met := m.Asked(); m.Len() != 0 || m.Room() != 0 || asked != 0 || met != 0 {
			t.Error("P0.1, P11.1: a nil memo has", m.Len(), m.Room(), asked, met)
		}
	}
}

// Where it was asked only, and nothing was put, nothing is there either.
func TestAskedOnly(t *testing.T) {
	w := newTold(t, 5)
	for _, r := range readAll(t, "a", "a", "[]", "()") {
		w.find(r)
		w.all()
	}
	if i, ok := w.put(readOne(t, "()")); i != 0 || !ok {
		t.Error("P11.1: Find has given a number")
	}
	w.find(readOne(t, "a"))
	w.find(readOne(t, "()"))
	w.all()
}

func TestWhatIsHandedInStays(t *testing.T) {
	room := []api.Re{tower(2, class('a')), class('b'), {Kind: api.Empty}, class('a'), {Kind: 77}, {Kind: 78}}
	before := dump(room...)
	m := memo.New(100)
	m.Put(room[:4]...)
	m.Put(room[:0]...)
	for _, kind := range []uint8{api.Seq, api.Alt} {
		x := api.Re{Kind: kind, Kids: room[:2]}
		y := api.Re{Kind: kind, Kids: room[2:4]}
		m.Put(x, y, node(api.Alt, x, api.Re{Kind: api.Eps, Kids: room[:0]}), api.Re{Kind: api.Star, Kids: room[3:4]})
		m.Find(y)
	}
	if dump(room...) != before {
		t.Error("P0.3: a list that was handed in has changed, or the room behind its end", room)
	}
	for _, x := range someExpressions(rand.New(rand.NewSource(3)), 300, 100) {
		before := dump(x)
		m.Put(x)
		m.Find(x)
		m.Put(x, x)
		if dump(x) != before {
			t.Fatal("P0.3: an expression that was handed in has changed", show.Text(x))
		}
	}
}

// spoil writes into every node, and into the room behind every list's end.
func spoil(r api.Re) {
	for i := range r.Kids {
		spoil(r.Kids[i])
		r.Kids[i] = api.Re{Kind: 99}
	}
	room := r.Kids[:cap(r.Kids)]
	for i := len(r.Kids); i < len(room); i++ {
		room[i] = api.Re{Kind: 98}
	}
}

func TestWhatIsHandedInIsNotKept(t *testing.T) {
	w := newTold(t, 10000)
	l := someExpressions(rand.New(rand.NewSource(4)), 500, 40)
	// Such that are their own normal forms, or stand in them as they are, are nearest to being kept themselves.
	l = append(l, readAll(t, "a", "()", "[]", "a*", "abc", "(ab)*", "b*|cd", "(b*|cd)*ef")...)
	for _, r := range l {
		l = append(l, copyOf(norm.Norm(r)))
	}
	room := []api.Re{class('b'), class('c')}
	w.put(api.Re{Kind: api.Eps, Kids: room[:0]}, api.Re{Kind: api.Class, Set: set.Of('a'), Kids: room[:0]})
	for _, r := range l {
		good := copyOf(r)
		list := []api.Re{r, tower(1, r)}
		w.put(list...)
		spoil(node(api.Alt, list...))
		list[0], list[1] = api.Re{}, api.Re{}
		w.find(r)
		w.find(good)
		w.find(tower(1, good))
	}
	for i := range w.m.Len() {
		r, _ := w.m.At(i)
		spoil(r)
	}
	if dump(room...) != dump(class('b'), class('c')) {
		t.Error("P0.3: the room behind an empty list was kept")
	}
	w.all()
}

func TestAnswersAreNewMemory(t *testing.T) {
	w := newTold(t, 1000)
	l := append(someExpressions(rand.New(rand.NewSource(5)), 300, 40), readAll(t, "a", "()", "[]", "a*", "abc", "(ab)*", "b*|cd", "(b*|cd)*ef")...)
	w.put(l...)
	for i, form := range w.forms {
		first, _ := w.m.At(i)
		second, _ := w.m.At(i)
		spoil(first)
		if dump(second) != form {
			t.Fatal("P0.3: what was written into one answer is in another one, of the number", i)
		}
	}
	w.all()
	for _, r := range l {
		w.find(r)
	}
	w.put(l...)
	w.all()
}

// No two lists of one answer share memory: what is written into one node is seen there alone.
func TestListsOfOneAnswerAreApart(t *testing.T) {
	ab := readOne(t, "ab*")
	shared := node(api.Seq, ab, node(api.Alt, ab, node(api.Star, ab)))
	m := memo.New(10)
	m.Put(shared, node(api.Seq, shared, shared), tower(1, shared))
	for i := range m.Len() {
		r, _ := m.At(i)
		all := nodes(&r)
		for k, n := range all {
			n.Kind = uint8(k)
		}
		for k, n := range all {
			if n.Kind != uint8(k) {
				t.Fatal("P0.3: two lists of one answer share memory, of the number", i)
			}
		}
	}
}

// Memos know nothing of each other: told the same, they answer the same, whatever others were told.
func TestMemosAreApart(t *testing.T) {
	r := rand.New(rand.NewSource(6))
	l := append(someExpressions(r, 200, 30), smallWrongOnes()...)
	memos := []*told{newTold(t, 40), newTold(t, 40), newTold(t, 3), newTold(t, 10000), newTold(t, 0)}
	for range 2000 {
		some := []api.Re{l[r.Intn(len(l))], l[r.Intn(len(l))]}
		i, ok := memos[0].put(some...)
		k, again := memos[1].put(some...)
		if i != k || ok != again {
			t.Fatal("P0.5: two memos that were told the same answer", i, ok, "and", k, again)
		}
		other := memos[2+r.Intn(3)]
		other.put(l[r.Intn(len(l))])
		other.find(l[r.Intn(len(l))])
	}
	for _, w := range memos {
		w.all()
	}
	for _, x := range l {
		i, ok := memos[0].find(x)
		k, again := memos[1].find(x)
		if i != k || ok != again {
			t.Fatal("P0.5: two memos that were told the same answer", i, ok, "and", k, again)
		}
	}
}

// What only tells changes nothing.
func TestAnswersStayTheSame(t *testing.T) {
	w := newTold(t, 50)
	w.put(someExpressions(rand.New(rand.NewSource(7)), 100, 20)...)
	for range 100 {
		w.all()
	}
	for range 100 {
		w.find(class('a'))
		w.put()
	}
	w.all()
}
