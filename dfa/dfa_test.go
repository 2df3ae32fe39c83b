package dfa_test

import (
	"encoding/binary"
	"fmt"
	"math"
	"math/rand"
	"slices"
	"strings"
	"testing"

	"quill/api"
	"quill/deriv"
	"quill/dfa"
	"quill/norm"
	"quill/read"
	"quill/rex"
	"quill/set"
	"quill/show"
)

var everyByte = api.Set{math.MaxUint64, math.MaxUint64, math.MaxUint64, math.MaxUint64}

func class(l ...byte) api.Re { return api.Re{Kind: api.Class, Set: set.Of(l...)} }

func node(kind uint8, kids ...api.Re) api.Re { return api.Re{Kind: kind, Kids: kids} }

// letters is a row of a letter.
func letters(n int, c byte) api.Re { return rex.Word(strings.Repeat(string([]byte{c}), n)) }

// readOne is for texts that are of the form.
func readOne(t *testing.T, text string) api.Re {
	t.Helper()
	r, _, e := read.Read(text)
	if e != api.OK {
		t.Fatal("not read:", text)
	}
	return r
}

// dump writes every node of an expression out, so that two dumps are alike just if the expressions are, node by node.
func dump(l ...api.Re) string { return string(dumpTo(nil, l)) }

func dumpTo(b []byte, l []api.Re) []byte {
	for _, r := range l {
		b = append(b, r.Kind)
		for _, word := range r.Set {
			b = binary.BigEndian.AppendUint64(b, word)
		}
		b = binary.AppendUvarint(b, uint64(len(r.Kids)))
		b = dumpTo(b, r.Kids)
	}
	return b
}

// copyOf is the same expression, in memory of its own.
func copyOf(r api.Re) api.Re {
	out := api.Re{Kind: r.Kind, Set: r.Set}
	for _, kid := range r.Kids {
		out.Kids = append(out.Kids, copyOf(kid))
	}
	return out
}

// nodes are all nodes of an expression, by their places.
func nodes(r *api.Re) []*api.Re {
	out := []*api.Re{r}
	for i := range r.Kids {
		out = append(out, nodes(&r.Kids[i])...)
	}
	return out
}

// tower is a leaf with Stars around it.
func tower(height int, leaf api.Re) api.Re {
	for range height {
		leaf = node(api.Star, leaf)
	}
	return leaf
}

// comb is a chain of nodes with two kids, the second one (or the first one, if it is nested left) of them the chain's rest.
func comb(kind uint8, left bool, l ...api.Re) api.Re {
	if left {
		out := l[0]
		for _, x := range l[1:] {
			out = node(kind, out, x)
		}
		return out
	}
	out := l[len(l)-1]
	for i := len(l) - 2; i >= 0; i-- {
		out = node(kind, l[i], out)
	}
	return out
}

func has(s api.Set, b byte) bool { return s[b/64]>>(b%64)&1 == 1 }

// machine has places and ways between them, with a byte of a set or without a byte: a text leads from the place 0 to the place 1 just if the expression fits it.
type machine [][]way

type way struct {
	to   int
	free bool
	set  api.Set
}

func machineOf(r api.Re) machine {
	m := machine{nil, nil}
	m.build(r, 0, 1)
	return m
}

func (m *machine) place() int {
	*m = append(*m, nil)
	return len(*m) - 1
}

func (m *machine) lay(from int, w way) { (*m)[from] = append((*m)[from], w) }

func (m *machine) build(r api.Re, from, to int) {
	switch r.Kind {
	case 2:
		m.lay(from, way{to: to, free: true})
	case 3:
		m.lay(from, way{to: to, set: r.Set})
	case 4:
		mid := m.place()
		m.build(r.Kids[0], from, mid)
		m.build(r.Kids[1], mid, to)
	case 5:
		m.build(r.Kids[0], from, to)
		m.build(r.Kids[1], from, to)
	case 6:
		in, back := m.place(), m.place()
		m.lay(from, way{to: in, free: true})
		m.lay(back, way{to: in, free: true})
		m.lay(in, way{to: to, free: true})
		m.build(r.Kids[0], in, back)
	}
}

// reached are these places, and those to which ways without a byte lead.
func (m machine) reached(l []int) []int {
	met := make([]bool, len(m))
	var out []int
	for len(l) > 0 {
		p := l[len(l)-1]
		l = l[:len(l)-1]
		if met[p] {
			continue
		}
		met[p] = true
		out = append(out, p)
		for _, w := range m[p] {
			if w.free {
				l = append(l, w.to)
			}
		}
	}
	return out
}

func (m machine) step(at []int, b byte) []int {
	var next []int
	for _, p := range at {
		for _, w := range m[p] {
			if !w.free && has(w.set, b) {
				next = append(next, w.to)
			}
		}
	}
	return m.reached(next)
}

// lengths are how many bytes are from a place on to each end; none, if it isn't a place.
func (m machine) lengths(s string, at int) []int {
	var out []int
	if at < 0 || at > len(s) {
		return nil
	}
	now := m.reached([]int{0})
	for i := at; len(now) > 0; i++ {
		if slices.Contains(now, 1) {
			out = append(out, i-at)
		}
		if i == len(s) {
			break
		}
		now = m.step(now, s[i])
	}
	return out
}

func (m machine) fits(s string) bool { return slices.Contains(m.lengths(s, 0), len(s)) }

// someText goes on with bytes that lead on, now and then with any byte.
func (m machine) someText(r *rand.Rand, n int) string {
	now := m.reached([]int{0})
	var text []byte
	for range n {
		b := byte(r.Intn(256))
		if l := m.leadingOn(r, now); len(l) > 0 && r.Intn(30) > 0 {
			b = l[r.Intn(len(l))]
		}
		text = append(text, b)
		now = m.step(now, b)
	}
	return string(text)
}

// leadingOn are some bytes that lead on from these places, one a way.
func (m machine) leadingOn(r *rand.Rand, now []int) []byte {
	var out []byte
	for _, p := range now {
		for _, w := range m[p] {
			if !w.free {
				l := set.Bytes(w.set)
				out = append(out, l[r.Intn(len(l))])
			}
		}
	}
	return out
}

// told is an automaton, and beside it what it must answer: ends by a machine, and its states and steps by derivatives, a state written out node by node.
type told struct {
	t           *testing.T
	d           *dfa.DFA
	r           api.Re
	m           machine
	room        int
	states      map[string]bool
	steps       map[step]bool
	known       map[step]target
	kept, other int
	// How many texts led to a derivative with too many nodes.
	limits int
}

type step struct {
	from string
	by   byte
}

// target is where a step leads; it is learnt once, for derivatives take their time.
type target struct {
	left api.Re
	key  string
	e    api.Errno
}

func newTold(t *testing.T, r api.Re, room int) *told {
	t.Helper()
	d, e := dfa.New(r, room)
	if d == nil || e != api.OK {
		t.Fatalf("P12.1: New of %.300s is %v", show.Text(r), e)
	}
	w := &told{t: t, d: d, r: copyOf(r), m: machineOf(r), room: min(max(room, 0), 10000), states: map[string]bool{}, steps: map[step]bool{}, known: map[step]target{}}
	w.counts()
	return w
}

func (w *told) come(key string) {
	if len(w.states) < w.room {
		w.states[key] = true
	}
}

func (w *told) target(left api.Re, s step) target {
	to, ok := w.known[s]
	if !ok {
		to.left, to.e = deriv.Step(left, s.by)
		to.key = dump(to.left)
		w.known[s] = to
	}
	return to
}

// walk is what a text does to the automaton.
func (w *told) walk(s string) {
	left := norm.Norm(w.r)
	key := dump(left)
	w.come(key)
	for i := 0; i < len(s) && left.Kind != api.Empty; i++ {
		by := step{key, s[i]}
		to := w.target(left, by)
		if to.e != api.OK {
			w.limits++
			return
		}
		if w.steps[by] {
			w.kept++
		} else {
			w.other++
		}
		w.come(to.key)
		if w.states[key] && w.states[to.key] {
			w.steps[by] = true
		}
		left, key = to.left, to.key
	}
}

// counts holds States and Steps to what was told.
func (w *told) counts() {
	w.t.Helper()
	kept, other := w.d.Steps()
	if n := w.d.States(); n > w.room || n != len(w.states) || kept != w.kept || other != w.other {
		w.t.Fatalf("P12.1, P12.2: with room for %d, States is %d, and Steps %d, %d, not %d, and %d, %d, of %.300s", w.room, n, kept, other, len(w.states), w.kept, w.other, show.Text(w.r))
	}
}

func (w *told) fits(l ...string) bool {
	w.t.Helper()
	want := true
	for i := 0; i < len(l) && want; i++ {
		w.walk(l[i])
		want = w.m.fits(l[i])
	}
	if w.d.Fits(l...) != want {
		w.t.Fatalf("P12.1: with room for %d, Fits of %.300s and %.300q is %v", w.room, show.Text(w.r), l, !want)
	}
	w.counts()
	return want
}

func (w *told) lengths(s string, at int) []int {
	w.t.Helper()
	if at >= 0 && at <= len(s) {
		w.walk(s[at:])
	}
	want := w.m.lengths(s, at)
	if got := w.d.Lengths(s, at); !slices.Equal(got, want) {
		w.t.Fatalf("P12.1: with room for %d, Lengths of %.300s in %.300q from %d on are %.300s, not %.300s", w.room, show.Text(w.r), s, at, fmt.Sprint(got), fmt.Sprint(want))
	}
	w.counts()
	return want
}

func (w *told) longest(s string, at int) int {
	w.t.Helper()
	if at >= 0 && at <= len(s) {
		w.walk(s[at:])
	}
	want := 0
	if l := w.m.lengths(s, at); len(l) > 0 {
		want = l[len(l)-1]
	}
	if n, ok := w.d.Longest(s, at); n != want || ok != (want > 0) {
		w.t.Fatalf("P12.1: with room for %d, Longest of %.300s in %.300q from %d on is %d, %v, not %d", w.room, show.Text(w.r), s, at, n, ok, want)
	}
	w.counts()
	return want
}

// all asks all calls of one text.
func (w *told) all(s string, at int) {
	w.t.Helper()
	w.fits(s)
	w.lengths(s, at)
	w.longest(s, at)
}

var rooms = []int{0, 1, 2, 3, 5, 100}

func TestNumbersOfLimits(t *testing.T) {
	if api.MaxStates != 10000 || api.MaxNodes != 2000 || api.OK != 0 || api.ErrArg != 1 {
		t.Error("T6: limits and errors are", api.MaxStates, api.MaxNodes, api.OK, api.ErrArg)
	}
}

func TestExample(t *testing.T) {
	d, e := dfa.New(readOne(t, "(ab)*"), 3)
	if e != api.OK || !d.Fits("abab") || d.States() != 2 {
		t.Error("P12.1: behind abab, with room for 3, (ab)* keeps", d.States(), e)
	}
}

// wantCounts holds the answers of States and Steps to three numbers.
func wantCounts(t *testing.T, what string, d *dfa.DFA, states, kept, other int) {
	t.Helper()
	k, o := d.Steps()
	if n := d.States(); n != states || k != kept || o != other {
		t.Errorf("P12.1, P12.2: %s, States is %d, and Steps %d, %d, not %d, and %d, %d", what, n, k, o, states, kept, other)
	}
}

func TestRowsOfCalls(t *testing.T) {
	for _, c := range []struct {
		re   string
		room int
		// Behind each of these texts: how many states, steps by what is kept, and others there are.
		rows []row
	}{
		{"(ab)*", 3, []row{{"abab", 2, 2, 2}, {"abab", 2, 6, 2}, {"", 2, 6, 2}, {"a", 2, 7, 2}, {"ba", 3, 7, 3}, {"ba", 3, 8, 3}, {"abb", 3, 11, 3}, {"abbbb", 3, 14, 3}, {"aa", 3, 15, 4}, {"aa", 3, 17, 4}}},
		// What is left behind a has no room, but what is left behind ab is kept.
		{"(ab)*", 1, []row{{"", 1, 0, 0}, {"abab", 1, 0, 4}, {"abab", 1, 0, 8}}},
		{"(ab)*", 0, []row{{"", 0, 0, 0}, {"abab", 0, 0, 4}, {"abab", 0, 0, 8}}},
		{"(ab)*", 2, []row{{"abab", 2, 2, 2}, {"aba", 2, 5, 2}, {"b", 2, 5, 3}, {"b", 2, 5, 4}, {"aa", 2, 6, 5}}},
		// Of one state there are steps to itself.
		{"a*", 1, []row{{"aaa", 1, 2, 1}, {"aaa", 1, 5, 1}, {"b", 1, 5, 2}, {"aab", 1, 7, 3}}},
		{"a*", 2, []row{{"b", 2, 0, 1}, {"bb", 2, 1, 1}, {"aab", 2, 3, 2}, {"aabb", 2, 6, 2}}},
		{"[ab]*", 5, []row{{"ab", 1, 0, 2}, {"ba", 1, 2, 2}, {"abc", 2, 4, 3}}},
		// Behind Empty there are no steps any more.
		{"[]", 5, []row{{"", 1, 0, 0}, {"aaaa", 1, 0, 0}}},
		{"a[]", 5, []row{{"", 1, 0, 0}, {"aaaa", 1, 0, 0}}},
		{"()", 5, []row{{"", 1, 0, 0}, {"a", 2, 0, 1}, {"aaaa", 2, 1, 1}, {"b", 2, 1, 2}}},
		{"abc", 9, []row{{"ab", 3, 0, 2}, {"abc", 4, 2, 3}, {"abcd", 5, 5, 4}, {"abcde", 5, 9, 4}, {"b", 5, 9, 5}}},
		{"abc", 2, []row{{"abcd", 2, 0, 4}, {"abcd", 2, 1, 7}, {"x", 2, 1, 8}}},
		// What is left behind abc has no room; behind that, and d, the kept steps are taken again.
		{"(abcd)*", 3, []row{{"abcd", 3, 0, 4}, {"abcdabcd", 3, 4, 8}, {"ab", 3, 6, 8}}},
		// Two ways lead to one state.
		{"ax|bx", 4, []row{{"ax", 3, 0, 2}, {"bx", 3, 1, 3}, {"bx", 3, 3, 3}}},
	} {
		d, e := dfa.New(readOne(t, c.re), c.room)
		if e != api.OK {
			t.Fatal("P12.1: New is", e)
		}
		wantCounts(t, "ahead of all texts", d, 0, 0, 0)
		for _, r := range c.rows {
			d.Fits(r.text)
			wantCounts(t, fmt.Sprintf("of %s, with room for %d, behind %q", c.re, c.room, r.text), d, r.states, r.kept, r.other)
		}
	}
}

type row struct {
	text                string
	states, kept, other int
}

func TestEachCallTakesItsText(t *testing.T) {
	for _, c := range []struct {
		what                string
		call                func(d *dfa.DFA)
		states, kept, other int
	}{
		{"Fits", func(d *dfa.DFA) { d.Fits("xyz") }, 4, 0, 3},
		{"Fits of the empty text", func(d *dfa.DFA) { d.Fits("") }, 1, 0, 0},
		{"Fits of no texts", func(d *dfa.DFA) { d.Fits() }, 0, 0, 0},
		{"Lengths", func(d *dfa.DFA) { d.Lengths("xyz", 0) }, 4, 0, 3},
		{"Lengths from a place on", func(d *dfa.DFA) { d.Lengths("??xy", 2) }, 3, 0, 2},
		{"Lengths from the end on", func(d *dfa.DFA) { d.Lengths("xyz", 3) }, 1, 0, 0},
		{"Lengths from no place on", func(d *dfa.DFA) { d.Lengths("xyz", 4) }, 0, 0, 0},
		{"Lengths from below 0 on", func(d *dfa.DFA) { d.Lengths("xyz", -1) }, 0, 0, 0},
		{"Longest", func(d *dfa.DFA) { d.Longest("xyz", 0) }, 4, 0, 3},
		{"Longest up to where nothing is left", func(d *dfa.DFA) { d.Longest("xxxxx", 0) }, 3, 0, 2},
		{"Longest from a place on", func(d *dfa.DFA) { d.Longest("??xy", 2) }, 3, 0, 2},
		{"Longest from the end on", func(d *dfa.DFA) { d.Longest("xyz", 3) }, 1, 0, 0},
		{"Longest from no place on", func(d *dfa.DFA) { d.Longest("xyz", 4) }, 0, 0, 0},
		{"Longest from below 0 on", func(d *dfa.DFA) { d.Longest("xyz", math.MinInt) }, 0, 0, 0},
		{"States and Steps", func(d *dfa.DFA) { d.States(); d.Steps() }, 0, 0, 0},
		// Whether all are fitted is told by the first one that isn't.
		{"Fits of some", func(d *dfa.DFA) { d.Fits("xyz", "xx", "y") }, 5, 1, 4},
	} {
		d, _ := dfa.New(rex.Word("xyz"), 100)
		c.call(d)
		wantCounts(t, "behind "+c.what, d, c.states, c.kept, c.other)
	}
}

func TestExamplesOfEnds(t *testing.T) {
	for _, c := range []struct {
		re, s string
		at    int
		want  []int
	}{
		{"a*", "aab", 0, []int{0, 1, 2}}, {"a*", "aab", 1, []int{0, 1}}, {"a*", "aab", 2, []int{0}}, {"a*", "aab", 3, []int{0}},
		{"a*", "aab", 4, nil}, {"a*", "aab", -1, nil}, {"a*", "aab", math.MaxInt, nil}, {"a*", "aab", math.MinInt, nil}, {"()", "", 1, nil}, {"()", "", -1, nil},
		{"[]", "", 0, nil}, {"[]", "a", 0, nil}, {"[]*", "aa", 1, []int{0}}, {"()", "", 0, []int{0}}, {"()", "ab", 2, []int{0}},
		{"a", "", 0, nil}, {"a", "a", 0, []int{1}}, {"a", "a", 1, nil}, {"a", "ba", 1, []int{1}}, {".", "\x00\xff", 1, []int{1}},
		{"ab|a", "ab", 0, []int{1, 2}}, {"ab|()", "ab", 0, []int{0, 2}}, {"abc|a|()", "abc", 0, []int{0, 1, 3}}, {"abc|a", "abd", 0, []int{1}},
		{"(a|ab)(c|bc)", "abc", 0, []int{3}}, {"(a|ab)(bc|c|())", "abc", 0, []int{1, 2, 3}},
		{"(ab)*", "ababa", 0, []int{0, 2, 4}}, {"(ab)*", "ababa", 1, []int{0}}, {"(ab)*", "xababa", 1, []int{0, 2, 4}},
		{"(aa|aaa)*", "aaaaaa", 0, []int{0, 2, 3, 4, 5, 6}}, {"(aaa|aa)*b", "aaaaab", 1, []int{5}}, {"a*a*", "aaa", 0, []int{0, 1, 2, 3}}, {"a*aa", "aaaa", 0, []int{2, 3, 4}},
		// Texts go by bytes: a place may be within two that make one sign together.
		{`\c3\a9*`, "\u00e9", 0, []int{1, 2}}, {`\a9`, "\u00e9", 1, []int{1}}, {".", "\u00e9", 0, []int{1}}, {`\ff\00*`, "\xff\x00\x00", 0, []int{1, 2, 3}},
	} {
		for _, room := range rooms {
			d, _ := dfa.New(readOne(t, c.re), room)
			for range 2 {
				if l := d.Lengths(c.s, c.at); !slices.Equal(l, c.want) {
					t.Errorf("P12.1: with room for %d, Lengths of %s in %q from %d on are %v, not %v", room, c.re, c.s, c.at, l, c.want)
				}
				longest := 0
				if len(c.want) > 0 {
					longest = c.want[len(c.want)-1]
				}
				if n, ok := d.Longest(c.s, c.at); n != longest || ok != (longest > 0) {
					t.Errorf("P12.1: with room for %d, Longest of %s in %q from %d on is %d, %v, not %d", room, c.re, c.s, c.at, n, ok, longest)
				}
				if c.at == 0 && d.Fits(c.s) != slices.Contains(c.want, len(c.s)) {
					t.Errorf("P12.1: with room for %d, Fits of %s and %q", room, c.re, c.s)
				}
			}
		}
	}
}

func TestFitsOfSome(t *testing.T) {
	for _, room := range rooms {
		w := newTold(t, readOne(t, "(ab)*"), room)
		for range 2 {
			for _, l := range [][]string{nil, {}, {""}, {"ab"}, {"ab", ""}, {"ab", "abab", "ab"}} {
				if !w.fits(l...) {
					t.Errorf("P12.1, P0.4: Fits of (ab)* and %q", l)
				}
			}
			for _, l := range [][]string{{"a"}, {"", "b"}, {"aba", "ab"}, {"ab", "abb", "ab"}, {"ab", "ab", "ab "}, {"", "", "\x00"}} {
				if w.fits(l...) {
					t.Errorf("P12.1: Fits of (ab)* and %q", l)
				}
			}
		}
	}
}

func TestLongLists(t *testing.T) {
	const n = 1 << 16
	l := slices.Repeat([]string{"abab"}, n)
	d, _ := dfa.New(readOne(t, "(ab)*"), 3)
	if !d.Fits(l...) {
		t.Error("P0.1, P12.1: Fits of 65536")
	}
	if l[n-1] = "aba"; d.Fits(l...) {
		t.Error("P0.1, P12.1: Fits of 65536, the last one of which isn't fitted")
	}
}

// allOfSize are all expressions of so many nodes, for each number of nodes up to the greatest one, with these leaves.
func allOfSize(most int, leaves ...api.Re) [][]api.Re {
	out := [][]api.Re{nil, leaves}
	for n := 2; n <= most; n++ {
		var l []api.Re
		for _, x := range out[n-1] {
			l = append(l, node(api.Star, x))
		}
		for i := 1; i < n-1; i++ {
			for _, x := range out[i] {
				for _, y := range out[n-1-i] {
					l = append(l, node(api.Seq, x, y), node(api.Alt, x, y))
				}
			}
		}
		out = append(out, l)
	}
	return out
}

// allTexts are all texts of these bytes, up to a length.
func allTexts(most int, l ...byte) []string {
	out := []string{""}
	for from := 0; most > 0; most-- {
		for end := len(out); from < end; from++ {
			for _, b := range l {
				out = append(out, out[from]+string([]byte{b}))
			}
		}
	}
	return out
}

func TestAllSmallOnes(t *testing.T) {
	texts := allTexts(4, 'a', 'b')
	for size, l := range allOfSize(6, rex.Or(), rex.Then(), class('b'), class('a', 'b')) {
		for i, r := range l {
			for k, room := range []int{0, 1, 2, 3, 100} {
				// Of those of six nodes there are many: one room for each of them is enough.
				if size == 6 && i%5 != k {
					continue
				}
				w := newTold(t, r, room)
				for n, s := range texts {
					w.fits(s)
					w.lengths(s, 0)
					w.longest(s, min(n%3, len(s)))
				}
			}
		}
	}
}

// Every row of three of these calls, by automata of little room.
func TestEveryRowOfCalls(t *testing.T) {
	calls := []func(w *told){
		func(w *told) { w.fits() },
		func(w *told) { w.fits("") },
		func(w *told) { w.fits("abab") },
		func(w *told) { w.fits("a", "ba", "aab") },
		func(w *told) { w.fits("ab", "a") },
		func(w *told) { w.lengths("babab", 1) },
		func(w *told) { w.lengths("ab", 3) },
		func(w *told) { w.longest("aab", 0) },
		func(w *told) { w.longest("bbb", -1) },
		func(w *told) { w.longest("abba", 2) },
	}
	rowsOfCalls := 0
	for _, text := range []string{"(ab)*", "a*b|ab*", "(a|b)*ab", "ab|abab"} {
		r := readOne(t, text)
		for room := range 5 {
			// What was learnt of steps in one row holds in the next one.
			known := map[step]target{}
			for row := range 10 * 10 * 10 {
				w := newTold(t, r, room)
				w.known = known
				for range 3 {
					calls[row%10](w)
					row /= 10
				}
				rowsOfCalls++
			}
		}
	}
	if rowsOfCalls != 20000 {
		t.Error("P12.1: too few rows of calls:", rowsOfCalls)
	}
}

// chances are how often the kinds come, of 100: the rest of the inner nodes are Alts, and of the leaves Classes.
type chances struct{ star, seq, empty, eps int }

// ofSize is an expression of just so many nodes.
func (c chances) ofSize(r *rand.Rand, n int) api.Re {
	if n == 1 {
		return c.leaf(r)
	}
	what := r.Intn(100)
	if n == 2 || what < c.star {
		return node(api.Star, c.ofSize(r, n-1))
	}
	kind := api.Alt
	if what < c.star+c.seq {
		kind = api.Seq
	}
	i := 1 + r.Intn(n-2)
	return node(kind, c.ofSize(r, i), c.ofSize(r, n-1-i))
}

func (c chances) leaf(r *rand.Rand) api.Re {
	switch what := r.Intn(100); {
	case what < c.empty:
		return rex.Or()
	case what < c.empty+c.eps:
		return rex.Then()
	case what%7 == 0:
		return class(byte(r.Intn(256)), byte(r.Intn(256)), byte(r.Intn(256)))
	}
	return class("abc\x00\x7f\x80\xff"[r.Intn(7)])
}

// someExpressions are such that may be, up to the most nodes.
func someExpressions(r *rand.Rand, n, most int) []api.Re {
	var out []api.Re
	for range n {
		c := chances{r.Intn(4) * r.Intn(9), 10 + r.Intn(80), r.Intn(2) * r.Intn(4), r.Intn(3) * r.Intn(20)}
		out = append(out, c.ofSize(r, 1+r.Intn(most)))
	}
	return out
}

func TestManyOfAnySize(t *testing.T) {
	met := map[string]int{}
	r := rand.New(rand.NewSource(1))
	for _, c := range []struct{ n, size, texts, long int }{{2000, 12, 6, 12}, {300, 60, 6, 20}, {48, 600, 2, 10}, {80, 2000, 2, 8}} {
		for i, x := range someExpressions(r, c.n, c.size) {
			w := newTold(t, x, rooms[i%len(rooms)])
			for range c.texts {
				s := w.m.someText(r, r.Intn(c.long))
				front := strings.Repeat("a", r.Intn(2)*r.Intn(5))
				w.fits(s)
				w.lengths(front+s, len(front))
				w.longest(front+s, r.Intn(len(front+s)+1))
				w.fits(s[:r.Intn(len(s)+1)], s)
				met[fmt.Sprint("lengths ", min(len(w.m.lengths(s, 0)), 2))]++
			}
			met[fmt.Sprint("limits ", w.limits > 0, " states ", min(len(w.states), 2))]++
			met[fmt.Sprint("kept ", w.kept > 0, " other ", w.other > 0)]++
		}
	}
	for _, sort := range []string{"lengths 0", "lengths 1", "lengths 2", "limits false states 0", "limits false states 1", "limits false states 2", "limits true states 0", "limits true states 1", "limits true states 2", "kept true other true", "kept false other true", "kept false other false"} {
		if met[sort] < 5 {
			t.Error("P12.1: too few expressions of one sort:", sort, met)
		}
	}
}

// great is an expression of which a derivative has too many nodes, sooner or later.
type great struct {
	what string
	r    api.Re
	// Behind so many bytes of this text the next derivative has too many nodes.
	text  string
	bytes int
}

func greatOnes(t *testing.T) []great {
	t.Helper()
	a, b := class('a'), class('b')
	stars := func(n int) api.Re {
		return comb(api.Seq, false, append(slices.Repeat([]api.Re{tower(1, a)}, n), b)...)
	}
	long := comb(api.Seq, false, tower(1, a), b, letters(600, 'c'))
	return []great{
		{"60 Stars and b", stars(60), "aaaab", 0},
		{"30 Stars and b", stars(30), "aaaab", 1},
		{"xyz, and 60 Stars and b", rex.Then(rex.Word("xyz"), stars(60)), "xyzaaaab", 3},
		{"c and a long one, or e*", rex.Or(rex.Then(class('c'), long), tower(1, class('e'))), "cab" + strings.Repeat("c", 600), 1},
		{"c or d*, and a long one", rex.Or(rex.Then(rex.Or(class('c'), tower(1, class('d'))), long), rex.Then()), "ca", 0},
		{"a fork 108 bytes ahead of the end", readOne(t, "[ab]*a"+strings.Repeat("[ab]", 8)+strings.Repeat("c", 100)), "babbbbabbb" + strings.Repeat("a", 12), 18},
		{"ends on the way, and 60 Stars", rex.Then(tower(1, class('x')), rex.Or(rex.Then(), rex.Then(class('y'), stars(60)))), "xxxyaab", 4},
		{"60 Stars again and again", rex.Many(rex.Then(class('x'), rex.Or(rex.Then(), comb(api.Seq, false, slices.Repeat([]api.Re{rex.Many(rex.Word("ay"))}, 60)...)))), "xayayxxay", 1},
		{"a Star of 500, and Stars in it", rex.Many(rex.Then(a, tower(1, class('c', 'd')), letters(497, 'a'), tower(1, b))), strings.Repeat("acd"+strings.Repeat("a", 497)+"bb", 2), 0},
	}
}

// Where a derivative has too many nodes, it is answered as if it hadn't, and nothing more is kept.
func TestTooManyNodes(t *testing.T) {
	r := rand.New(rand.NewSource(2))
	for _, c := range greatOnes(t) {
		if !rex.May(c.r) {
			t.Fatal("may not be:", c.what)
		}
		_, e := deriv.Word(c.r, c.text[:c.bytes])
		_, next := deriv.Word(c.r, c.text[:c.bytes+1])
		if e != api.OK || next != api.ErrLimit {
			t.Error("not as great as told:", c.what, e, next)
		}
		known := map[step]target{}
		for _, room := range []int{0, 1, 3, 100} {
			w := newTold(t, c.r, room)
			w.known = known
			for range 2 {
				for end := range min(len(c.text), c.bytes+3) {
					w.all(c.text[:end], end/2)
				}
				w.all(c.text, 0)
				w.all(c.text+"b", 0)
				w.all("??"+c.text, 2)
				w.fits(c.text, c.text+"?", c.text)
				w.all(w.m.someText(r, 20), 0)
			}
			if w.limits < 10 {
				t.Error("P12.1: too few derivatives with too many nodes of", c.what)
			}
		}
	}
}

// Ends ahead of a derivative with too many nodes, those behind it, and the one at its place are all told, and each once.
func TestEndsAroundTooManyNodes(t *testing.T) {
	stars := comb(api.Seq, false, slices.Repeat([]api.Re{tower(1, class('a'))}, 60)...)
	r := rex.Then(tower(1, class('x')), rex.Or(rex.Then(), rex.Then(class('y'), stars)))
	for _, c := range []struct {
		s    string
		want []int
	}{
		{"", []int{0}}, {"xx", []int{0, 1, 2}}, {"xxy", []int{0, 1, 2, 3}}, {"xxya", []int{0, 1, 2, 3, 4}}, {"xxyaa", []int{0, 1, 2, 3, 4, 5}},
		{"xxyaab", []int{0, 1, 2, 3, 4, 5}}, {"xxyb", []int{0, 1, 2, 3}}, {"ya", []int{0, 1, 2}}, {"aa", []int{0}},
	} {
		for _, room := range rooms {
			d, _ := dfa.New(r, room)
			if l := d.Lengths("?"+c.s, 1); !slices.Equal(l, c.want) {
				t.Errorf("P12.1: with room for %d, Lengths in %q are %v, not %v", room, c.s, l, c.want)
			}
			last := c.want[len(c.want)-1]
			if n, ok := d.Longest(c.s, 0); n != last || ok != (last > 0) {
				t.Errorf("P12.1: with room for %d, Longest in %q is %d, %v, not %d", room, c.s, n, ok, last)
			}
			if d.Fits(c.s) != (last == len(c.s)) {
				t.Errorf("P12.1: with room for %d, Fits of %q", room, c.s)
			}
		}
	}
}

// A step whose derivative has just as many nodes as may be is taken; with one more it isn't.
func TestAtTheMostNodesOfADerivative(t *testing.T) {
	long := tower(1, letters(499, 'a'))
	for _, c := range []struct {
		what          string
		r             api.Re
		states, other int
	}{
		{"2000 nodes", rex.Or(letters(2, 'a'), long), 2, 1},
		{"2001 nodes", rex.Or(tower(1, class('a')), long), 1, 0},
		{"2000 nodes of a Star", tower(1, letters(500, 'a')), 2, 1},
		{"2004 nodes of a Star", tower(1, letters(501, 'a')), 1, 0},
		// The normal form's derivative counts, not the expression's.
		{"1999 Stars", tower(1999, class('a')), 1, 1},
	} {
		d, _ := dfa.New(c.r, 100)
		d.Lengths("a", 0)
		wantCounts(t, "behind a, of "+c.what, d, c.states, 0, c.other)
		w := newTold(t, c.r, 100)
		for _, s := range []string{"", "a", "aa", "aaa", "ab", "b"} {
			w.all(s, 0)
		}
		w.longest(strings.Repeat("a", 1002), 1)
	}
}

// What was taken by kept steps is taken by kept ones again; where there is room enough, all is kept.
func TestAskedAgain(t *testing.T) {
	r := rand.New(rand.NewSource(3))
	again := 0
	for i, x := range someExpressions(r, 800, 40) {
		m := machineOf(x)
		d, _ := dfa.New(x, []int{10000, 0, 1, 2, 3, 5, 8}[i%7])
		for range 4 {
			s := m.someText(r, r.Intn(20))
			d.Fits(m.someText(r, r.Intn(20)))
			before, beforeOther := d.Steps()
			l := d.Lengths(s, 0)
			kept, other := d.Steps()
			states := d.States()
			if !slices.Equal(d.Lengths(s, 0), l) || d.States() != states {
				t.Fatalf("P12.2: asked again, Lengths or States of %s are others", show.Text(x))
			}
			then, thenOther := d.Steps()
			if then-kept < kept-before || then-kept+thenOther-other != kept-before+other-beforeOther {
				t.Fatalf("P12.2: of %s and %q, %d steps of %d were kept, and asked again %d of %d", show.Text(x), s, kept-before, kept-before+other-beforeOther, then-kept, then-kept+thenOther-other)
			}
			if i%7 == 0 && thenOther != other {
				t.Fatalf("P12.2: of %s and %q, with room, not all was kept", show.Text(x), s)
			}
			d.Fits(s)
			last, lastOther := d.Steps()
			if last-then != then-kept || lastOther-thenOther != thenOther-other {
				t.Fatalf("P12.2: of %s and %q, asked a third time, not as much was kept", show.Text(x), s)
			}
			again += then - kept
		}
	}
	if again < 1000 {
		t.Error("P12.2: too few kept steps:", again)
	}
}

// As no two of these numbers have a divisor, there is one state behind each of so many bytes as all of them make together.
func TestTheMostStates(t *testing.T) {
	const round = 3 * 5 * 7 * 8 * 13
	s := strings.Repeat("a", round+4)
	r := rex.Or()
	for _, n := range []int{3, 5, 7, 8, 13} {
		r = rex.Or(r, rex.Many(letters(n, 'a')))
	}
	var want []int
	for n := range round + 5 {
		if n%3 == 0 || n%5 == 0 || n%7 == 0 || n%8 == 0 || n%13 == 0 {
			want = append(want, n)
		}
	}
	for _, c := range [][2]int{{9999, 9999}, {10001, 10000}} {
		d, _ := dfa.New(r, c[0])
		if l := d.Lengths(s, 0); !slices.Equal(l, want) {
			t.Error("P12.1: Lengths of a long text are", len(l), "not", len(want))
		}
		// Back at the beginning, four steps are kept ones.
		wantCounts(t, fmt.Sprint("with room for ", c[0]), d, c[1], 4, round)
		if d.Fits(s) {
			t.Error("P12.1: Fits of a long text")
		}
		wantCounts(t, fmt.Sprint("with room for ", c[0], " again"), d, c[1], 4+c[1]-1+4, round+round-c[1]+1)
	}
}

func TestRoom(t *testing.T) {
	s := strings.Repeat("a", 50)
	for _, c := range [][2]int{
		{0, 0}, {-1, 0}, {-10000, 0}, {math.MinInt, 0}, {math.MinInt32, 0}, {-1 << 32, 0},
		{1, 1}, {2, 2}, {30, 30}, {31, 31}, {32, 32}, {33, 32}, {10000, 32}, {10001, 32}, {1 << 32, 32}, {1<<32 + 1, 32}, {math.MaxInt, 32},
	} {
		d, e := dfa.New(readOne(t, "("+strings.Repeat("a", 32)+")*"), c[0])
		if e != api.OK || d.Fits(s) || !d.Fits(s[:32]) || d.States() != c[1] {
			t.Errorf("P12.1, P12.2: New with room for %d keeps %d states, not %d (%v)", c[0], d.States(), c[1], e)
		}
	}
}

func TestEveryByte(t *testing.T) {
	for a := range 256 {
		one := class(byte(a))
		for _, room := range []int{0, 1, 3} {
			d, _ := dfa.New(tower(1, one), room)
			other, _ := dfa.New(tower(1, api.Re{Kind: api.Class, Set: set.Less(everyByte, one.Set)}), room)
			for b := range 256 {
				s := string([]byte{byte(b), byte(b)})
				n, ok := d.Longest(s, 0)
				k, not := other.Longest(s, 0)
				if ok != (a == b) || n != len(s)*toInt(ok) || not != (a != b) || k != len(s)*toInt(not) {
					t.Fatalf("P12.1: Longest of %s* in %q is %d, %v, and of all others %d, %v", show.Text(one), s, n, ok, k, not)
				}
			}
			wantCounts(t, fmt.Sprint("behind every byte, with room for ", room), d, min(room, 2), toInt(room > 0), 257-toInt(room > 0))
		}
	}
	// A step is kept for its own byte alone.
	w := newTold(t, readOne(t, "(.|aa)*"), 10)
	for range 2 {
		for b := range 256 {
			w.fits(string([]byte{byte(b)}))
			w.fits(string([]byte{'a', byte(b), 'a'}))
		}
	}
}

func toInt(b bool) int {
	if b {
		return 1
	}
	return 0
}

func TestLongTexts(t *testing.T) {
	for _, c := range []struct{ room, n int }{{0, 1 << 12}, {1, 1 << 12}, {2, 1 << 20}, {100, 1 << 20}} {
		s := strings.Repeat("ab", c.n/2)
		d, _ := dfa.New(readOne(t, "(ab)*"), c.room)
		l := d.Lengths("b"+s, 1)
		for i, k := range l {
			if k != 2*i || len(l) != c.n/2+1 {
				t.Fatal("P12.1: Lengths of a long text are", len(l), "and have", k, "at", i)
			}
		}
		if k, ok := d.Longest(s, 0); k != c.n || !ok || !d.Fits(s) || d.Fits(s[:c.n-1]) || d.Fits(s+"a") {
			t.Error("P12.1: Longest of a long text is", k, ok, "or Fits")
		}
		if c.room < 2 {
			wantCounts(t, "behind long texts", d, c.room, 0, 5*c.n)
		} else {
			wantCounts(t, "behind long texts", d, 2, 5*c.n-2, 2)
		}
	}
}

// What is left behind many Stars has no derivative that may be, however long the text is.
func TestLongTextsOfTooManyNodes(t *testing.T) {
	stars := comb(api.Seq, false, append(slices.Repeat([]api.Re{tower(1, class('a'))}, 60), class('b'))...)
	d, _ := dfa.New(stars, 10)
	s := strings.Repeat("a", 1<<16)
	if d.Fits(s) || !d.Fits(s+"b") || !slices.Equal(d.Lengths(s+"ba", 0), []int{1<<16 + 1}) {
		t.Error("P12.1: Fits or Lengths of a long text and many Stars")
	}
	wantCounts(t, "behind long texts and many Stars", d, 1, 0, 0)
}

// A text that isn't gone on with costs nothing, however long it is: each of its places may be asked.
func TestEveryPlaceOfALongText(t *testing.T) {
	const n = 1 << 18
	s := strings.Repeat("ab", n/2)
	d, _ := dfa.New(rex.Word("ab"), 10)
	for at := range n {
		want := 2 - at%2*2
		if k, ok := d.Longest(s, at); k != want || ok != (want > 0) {
			t.Fatal("P12.1: Longest of ab in a long text from", at, "on is", k, ok)
		}
	}
}

func TestAtTheMostNodes(t *testing.T) {
	row := letters(1000, 'a')
	full := tower(1, row)
	if rex.Size(full) != 2000 {
		t.Fatal("not of the most nodes:", rex.Size(full))
	}
	s := strings.Repeat("a", 1002)
	for _, room := range []int{3, 10000} {
		for _, r := range []api.Re{row, full, comb(api.Seq, true, slices.Repeat([]api.Re{class('a')}, 1000)...), comb(api.Alt, true, slices.Repeat([]api.Re{class('a')}, 1000)...)} {
			w := newTold(t, r, room)
			w.all("", 0)
			w.fits(s[:1000])
			w.lengths(s[:1002], 1)
		}
	}
	for _, r := range []api.Re{tower(1, full), tower(2000, class('a')), letters(1001, 'a')} {
		if d, e := dfa.New(r, 10); d != nil || e != api.ErrArg {
			t.Error("P12.1: New of more than 2000 nodes is", e)
		}
	}
	w := newTold(t, tower(1999, class('a')), 10)
	w.all("aaab", 0)
	w.all("aaaa", 2)
}

func TestNilKidsAreNoKids(t *testing.T) {
	for _, bare := range []api.Re{{Kind: api.Empty}, {Kind: api.Eps}, class('a')} {
		r := bare
		r.Kids = []api.Re{}
		for _, x := range []api.Re{r, tower(1, r), node(api.Seq, r, r), node(api.Alt, bare, r)} {
			w := newTold(t, x, 10)
			for _, s := range []string{"", "a", "aa"} {
				w.all(s, 0)
			}
		}
	}
}

// Nodes may share their memory: each of them is a node for itself all the same.
func TestSharedMemory(t *testing.T) {
	star := tower(1, class('a'))
	two := []api.Re{star, class('b')}
	x := api.Re{Kind: api.Seq, Kids: two}
	y := api.Re{Kind: api.Alt, Kids: two}
	for _, r := range []api.Re{
		node(api.Seq, x, x), node(api.Alt, x, y), node(api.Seq, node(api.Star, y), node(api.Seq, star, x)),
		node(api.Star, node(api.Seq, y, x)), node(api.Seq, y, node(api.Seq, y, y)), node(api.Alt, node(api.Seq, x, y), node(api.Seq, y, x)),
	} {
		w := newTold(t, r, 5)
		for _, s := range allTexts(6, 'a', 'b') {
			w.all(s, 0)
		}
	}
}

// smallWrongOnes may not be, each of them for another node.
func smallWrongOnes() []api.Re {
	a := class('a')
	return []api.Re{
		{}, {Kind: 7}, {Kind: 255}, {Kind: api.Class},
		{Kind: api.Eps, Set: set.Of(0)},
		{Kind: api.Empty, Set: everyByte},
		{Kind: api.Star, Set: set.Of('a'), Kids: []api.Re{a}},
		{Kind: api.Seq, Set: set.Of('a'), Kids: []api.Re{a, a}},
		node(api.Empty, a), node(api.Eps, rex.Then()), node(api.Class, a),
		{Kind: api.Class, Set: set.Of('a'), Kids: []api.Re{a}},
		node(api.Seq), node(api.Seq, a), node(api.Seq, a, a, a),
		node(api.Alt), node(api.Alt, rex.Then()), node(api.Alt, a, a, a),
		node(api.Star), node(api.Star, a, a), node(api.Star, api.Re{}),
		node(api.Seq, rex.Or(), api.Re{}), node(api.Alt, rex.Then(), api.Re{}), node(api.Alt, a, api.Re{Kind: api.Class}),
	}
}

// wrongOnes are these, and such with too many nodes, some of them without end.
func wrongOnes() []api.Re {
	a := class('a')
	round := []api.Re{{Kind: api.Star}}
	round[0].Kids = round
	grown := a
	for range 60 {
		grown = node(api.Alt, grown, grown)
	}
	return append(smallWrongOnes(),
		tower(2000, a), tower(2000, rex.Or()), tower(65535, a),
		letters(1001, 'a'),
		comb(api.Seq, true, slices.Repeat([]api.Re{rex.Then()}, 1001)...),
		comb(api.Alt, true, slices.Repeat([]api.Re{a}, 1001)...),
		node(api.Alt, make([]api.Re, 1<<20)...),
		round[0], grown,
	)
}

// wantArg holds New to what is told of one that may not be.
func wantArg(t *testing.T, what string, r api.Re) {
	t.Helper()
	for _, room := range []int{0, 1, 100, -1, math.MaxInt, math.MinInt} {
		if d, e := dfa.New(r, room); d != nil || e != api.ErrArg {
			t.Errorf("P0.2, P12.1: New with room for %d isn't none with ErrArg, but %v, %s", room, e, what)
		}
	}
}

func TestWhatMayNotBe(t *testing.T) {
	for i, r := range wrongOnes() {
		wantArg(t, fmt.Sprint("of the wrong one ", i), r)
	}
}

func TestWrongNodesEverywhere(t *testing.T) {
	for _, text := range []string{"(a|b*)()([]|(abc)*)", "(a|())*", "[]|a[]", "()()|()*", "[](a|b)c", "a*b*c"} {
		good := readOne(t, text)
		for i := range nodes(&good) {
			for _, wrong := range []api.Re{{}, {Kind: 7}, {Kind: api.Class}, {Kind: api.Eps, Set: set.Of(0)}, node(api.Alt), node(api.Star, class('a'), class('b'))} {
				x := copyOf(good)
				*nodes(&x)[i] = wrong
				wantArg(t, fmt.Sprintf("of %s with %v at the node %d", text, wrong, i), x)
			}
		}
	}
}

func TestNilAutomaton(t *testing.T) {
	var d *dfa.DFA
	for range 2 {
		if !d.Fits() || !d.Fits([]string{}...) || !d.Fits([]string(nil)...) {
			t.Error("P0.1, P12.1: Fits of a nil automaton and no texts")
		}
		for _, s := range []string{"", "a", "\x00\xff"} {
			if d.Fits(s) || d.Fits(s, s) || d.Fits("", s) {
				t.Errorf("P0.1, P12.1: Fits of a nil automaton and %q", s)
			}
			for _, at := range []int{0, 1, -1, len(s), len(s) + 1, math.MaxInt, math.MinInt} {
				n, ok := d.Longest(s, at)
				if l := d.Lengths(s, at); n != 0 || ok || len(l) > 0 {
					t.Errorf("P0.1, P12.1: Longest of a nil automaton in %q from %d on is %d, %v, and Lengths %v", s, at, n, ok, l)
				}
			}
		}
		wantCounts(t, "of a nil automaton", d, 0, 0, 0)
	}
}

// spoil writes into every node, and into the room behind every list's end.
func spoil(r api.Re) {
	for i := range r.Kids {
		spoil(r.Kids[i])
		r.Kids[i] = api.Re{Kind: 99}
	}
	room := r.Kids[:cap(r.Kids)]
	for i := len(r.Kids); i < len(room); i++ {
		room[i] = api.Re{Kind: 98}
	}
}

func TestWhatIsHandedInStays(t *testing.T) {
	room := []api.Re{tower(1, class('a')), class('a'), {Kind: api.Empty}, class('b'), {Kind: 77}, {Kind: 78}}
	before := dump(room...)
	for _, kind := range []uint8{api.Seq, api.Alt} {
		x := api.Re{Kind: kind, Kids: room[:2]}
		for _, r := range []api.Re{x, node(api.Alt, x, api.Re{Kind: api.Eps, Kids: room[:0]}), node(api.Seq, x, api.Re{Kind: api.Star, Kids: room[3:4]})} {
			newTold(t, r, 5).all("aab", 0)
		}
	}
	if dump(room...) != before {
		t.Error("P0.3: a list that was handed in has changed, or the room behind its end", room)
	}
	some := []string{"a", "aa", "b", "c"}
	newTold(t, room[0], 5).fits(some[:2]...)
	newTold(t, room[0], 5).fits(some[:3]...)
	if !slices.Equal(some, []string{"a", "aa", "b", "c"}) {
		t.Error("P0.3: a list of texts has changed", some)
	}
	r := rand.New(rand.NewSource(4))
	for _, x := range someExpressions(r, 300, 100) {
		before := dump(x)
		w := newTold(t, x, 5)
		w.all(w.m.someText(r, 10), 0)
		if dump(x) != before {
			t.Fatal("P0.3: an expression that was handed in has changed", show.Text(x))
		}
	}
}

func TestWhatIsHandedInIsNotKept(t *testing.T) {
	r := rand.New(rand.NewSource(5))
	l := someExpressions(r, 300, 60)
	// Such that are their own normal forms, or stand in them as they are, are nearest to being kept themselves.
	for _, text := range []string{"a", "()", "[]", "a*", "abc", "(ab)*", "b*|cd", "(b*|cd)*ef"} {
		l = append(l, readOne(t, text))
	}
	for _, x := range l {
		l = append(l, copyOf(norm.Norm(x)))
	}
	for i, x := range l {
		w := newTold(t, x, rooms[i%len(rooms)])
		if i%2 == 0 {
			w.all(w.m.someText(r, 10), 0)
		}
		spoil(node(api.Star, x))
		for range 3 {
			w.all(w.m.someText(r, 10), 0)
		}
	}
}

func TestAnswersAreNewMemory(t *testing.T) {
	r := rand.New(rand.NewSource(6))
	for i, x := range append(someExpressions(r, 300, 40), greatOnes(t)[6].r) {
		w := newTold(t, x, rooms[i%len(rooms)])
		s := w.m.someText(r, 12)
		first, second := w.d.Lengths(s, 0), w.d.Lengths(s, 0)
		want := slices.Clone(second)
		room := first[:cap(first)]
		for k := range room {
			room[k] = -7
		}
		if !slices.Equal(second, want) || !slices.Equal(w.d.Lengths(s, 0), want) {
			t.Fatal("P0.3: what was written into an answer is seen elsewhere", show.Text(x))
		}
	}
}

// Automata know nothing of each other: told the same, they answer the same, whatever others were told.
func TestAutomataAreApart(t *testing.T) {
	r := rand.New(rand.NewSource(7))
	for _, text := range []string{"(a|ab)(c|bc)*", "(ab)*", "[ab]*a[ab][ab]", "(aa|aaa)*b*"} {
		x := readOne(t, text)
		all := []*told{newTold(t, x, 4), newTold(t, x, 4), newTold(t, x, 0), newTold(t, x, 100), newTold(t, readOne(t, "a*b"), 4)}
		for range 300 {
			s := all[0].m.someText(r, r.Intn(12))
			all[0].all(s, 0)
			all[2+r.Intn(3)].all(all[0].m.someText(r, r.Intn(12)), 0)
			all[1].all(s, 0)
		}
	}
}

// What only tells changes nothing.
func TestAnswersStayTheSame(t *testing.T) {
	w := newTold(t, readOne(t, "(a|ab)(c|bc)*"), 3)
	w.all("abcbc", 0)
	for range 100 {
		w.counts()
		w.lengths("abc", 4)
		w.longest("abc", -1)
		w.fits()
	}
}
