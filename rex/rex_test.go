package rex_test

import (
	"fmt"
	"math"
	"math/rand"
	"slices"
	"strings"
	"testing"

	"quill/api"
	"quill/rex"
	"quill/set"
)

var everyByte = api.Set{math.MaxUint64, math.MaxUint64, math.MaxUint64, math.MaxUint64}

func class(l ...byte) api.Re { return api.Re{Kind: api.Class, Set: set.Of(l...)} }

func node(kind uint8, kids ...api.Re) api.Re { return api.Re{Kind: kind, Kids: kids} }

// dump writes every node of an expression out, so that two dumps are alike just if the expressions are, node by node.
func dump(r api.Re) string {
	var b strings.Builder
	fmt.Fprintf(&b, "%d %x{", r.Kind, r.Set)
	for _, kid := range r.Kids {
		b.WriteString(dump(kid))
	}
	b.WriteString("}")
	return b.String()
}

// copyOf is the same expression, in memory of its own.
func copyOf(r api.Re) api.Re {
	out := api.Re{Kind: r.Kind, Set: r.Set}
	for _, kid := range r.Kids {
		out.Kids = append(out.Kids, copyOf(kid))
	}
	return out
}

// nodes are all nodes of an expression, by their places.
func nodes(r *api.Re) []*api.Re {
	out := []*api.Re{r}
	for i := range r.Kids {
		out = append(out, nodes(&r.Kids[i])...)
	}
	return out
}

// goodExpression is one that may be, of few nodes.
func goodExpression(r *rand.Rand, depth int) api.Re {
	kind := uint8(1 + r.Intn(6))
	if depth == 0 {
		kind = uint8(1 + r.Intn(3))
	}
	switch kind {
	case api.Class:
		return class(byte(r.Intn(256)), byte('a'+r.Intn(3)))
	case api.Seq, api.Alt:
		return node(kind, goodExpression(r, depth-1), goodExpression(r, depth-1))
	case api.Star:
		return node(kind, goodExpression(r, depth-1))
	}
	return api.Re{Kind: kind}
}

// anyExpression is one that may have any kinds, sets and kids.
func anyExpression(r *rand.Rand, depth int) api.Re {
	out := api.Re{Kind: uint8(r.Intn(9))}
	if r.Intn(20) == 0 {
		out.Kind = uint8(r.Intn(256))
	}
	if r.Intn(3) == 0 {
		out.Set = set.Of(byte(r.Intn(256)))
	}
	if depth > 0 {
		for range r.Intn(4) {
			out.Kids = append(out.Kids, anyExpression(r, depth-1))
		}
	}
	return out
}

// someExpressions is a fixed row of such that may be, such that may not, and such with one wrong node deep inside.
func someExpressions() []api.Re {
	r := rand.New(rand.NewSource(3))
	out := []api.Re{{}, {Kind: api.Empty}, {Kind: api.Eps}, {Kind: api.Class}, class('a'), {Kind: api.Class, Set: everyByte}}
	for range 500 {
		good := goodExpression(r, r.Intn(6))
		wrong := copyOf(good)
		all := nodes(&wrong)
		*all[r.Intn(len(all))] = anyExpression(r, r.Intn(2))
		out = append(out, good, wrong, anyExpression(r, r.Intn(5)))
	}
	return out
}

// tower is a leaf with nodes of one kid each around it.
func tower(kind uint8, height int, leaf api.Re) api.Re {
	for range height {
		leaf = node(kind, leaf)
	}
	return leaf
}

// rightComb is a chain of nodes with two kids, as Then and Or build them, of an odd number of nodes.
func rightComb(kind uint8, size int) api.Re {
	out := class('a')
	for range size / 2 {
		out = node(kind, class('b'), out)
	}
	return out
}

func leftComb(kind uint8, size int) api.Re {
	out := class('a')
	for range size / 2 {
		out = node(kind, out, class('b'))
	}
	return out
}

func TestNumbersOfKindsAndLimits(t *testing.T) {
	for i, k := range []uint8{api.Empty, api.Eps, api.Class, api.Seq, api.Alt, api.Star} {
		if int(k) != i+1 {
			t.Error("T6: kind", i+1, "is", k)
		}
	}
	if api.MaxNodes != 2000 {
		t.Error("T6: MaxNodes is", api.MaxNodes)
	}
}

// kidsAsked tells how many kids a kind asks for; -1, if it is none.
func kidsAsked(kind int) int {
	switch kind {
	case 1, 2, 3:
		return 0
	case 4, 5:
		return 2
	case 6:
		return 1
	}
	return -1
}

func TestMayOfEveryKindOfNode(t *testing.T) {
	for kind := range 256 {
		for kids := range 5 {
			for _, s := range []api.Set{{}, {1}, {0, 1 << 33}, {0, 0, 1}, {0, 0, 0, 1 << 63}, everyByte} {
				x := api.Re{Kind: uint8(kind), Set: s}
				for range kids {
					x.Kids = append(x.Kids, class('a'))
				}
				want := kids == kidsAsked(kind) && (kind == 3) == (s != api.Set{})
				if rex.May(x) != want {
					t.Errorf("P3.1: May of kind %d with %d kids and the set %x isn't %v", kind, kids, s, want)
				}
			}
		}
	}
}

// mayBe works out in the plainest way whether an expression may be.
func mayBe(r api.Re) bool {
	all := nodes(&r)
	for _, n := range all {
		if len(n.Kids) != kidsAsked(int(n.Kind)) || (n.Kind == 3) != (n.Set != api.Set{}) {
			return false
		}
	}
	return len(all) <= 2000
}

func TestMayOfMany(t *testing.T) {
	met := map[bool]int{}
	for _, x := range someExpressions() {
		want := mayBe(x)
		met[want]++
		if rex.May(x) != want {
			t.Fatalf("P3.1: May of %v isn't %v", x, want)
		}
	}
	if met[true] < 200 || met[false] < 200 {
		t.Error("P3.1: too few expressions of one sort", met)
	}
}

func TestMayAsksEveryNode(t *testing.T) {
	good := rex.Then(rex.Or(class('a'), rex.Many(class('b'))), rex.Then(), rex.Or(), rex.Many(rex.Word("abc")))
	if !rex.May(good) {
		t.Error("P3.1: May of a good one")
	}
	for i := range nodes(&good) {
		for _, wrong := range []api.Re{{}, {Kind: 7}, {Kind: 255}, {Kind: api.Class}, {Kind: api.Eps, Set: set.Of(0)}, {Kind: api.Empty, Set: everyByte}, node(api.Class, class('a')), node(api.Seq, class('a')), node(api.Alt), node(api.Star), node(api.Star, class('a'), class('b'))} {
			x := copyOf(good)
			*nodes(&x)[i] = wrong
			if rex.May(x) {
				t.Errorf("P3.1: May of one with %v at the node %d", wrong, i)
			}
		}
	}
}

func TestMayAtTheMostNodes(t *testing.T) {
	for _, c := range []struct {
		name string
		x    api.Re
		want bool
	}{
		{"1999 nodes, nested right", rightComb(api.Seq, 1999), true},
		{"2001 nodes, nested right", rightComb(api.Seq, 2001), false},
		{"1999 nodes, nested left", leftComb(api.Alt, 1999), true},
		{"2001 nodes, nested left", leftComb(api.Alt, 2001), false},
		{"2000 nodes, a Star of many", node(api.Star, rightComb(api.Alt, 1999)), true},
		{"2001 nodes, Stars of many", node(api.Star, node(api.Star, rightComb(api.Alt, 1999))), false},
		{"2000 nodes, Stars", tower(api.Star, 1999, class('a')), true},
		{"2001 nodes, Stars", tower(api.Star, 2000, class('a')), false},
		{"2000 nodes, two parts", node(api.Seq, tower(api.Star, 999, class('a')), tower(api.Star, 998, class('a'))), true},
		{"2001 nodes, two parts", node(api.Seq, tower(api.Star, 999, class('a')), tower(api.Star, 999, class('a'))), false},
		{"2000 nodes, a word", rex.Many(rex.Word(strings.Repeat("x", 1000))), true},
		{"2001 nodes, a word", rex.Word(strings.Repeat("x", 1001)), false},
		{"2000 nodes, the last one wrong", tower(api.Star, 1999, api.Re{}), false},
		{"65536 nodes, Stars", tower(api.Star, 65535, class('a')), false},
	} {
		if rex.May(c.x) != c.want {
			t.Errorf("P3.1: May of %s isn't %v", c.name, c.want)
		}
	}
	most := tower(api.Star, 1999, class('a'))
	if !rex.May(most, most, most) {
		t.Error("P3.1: the nodes of several are counted together")
	}
	if rex.May(most, tower(api.Star, 1, most)) {
		t.Error("P3.1: May of several, one too large")
	}
}

func TestMayOfExpressionsThatGrowWithoutBound(t *testing.T) {
	x := class('a')
	for range 60 {
		x = node(api.Seq, x, x)
	}
	round := []api.Re{{Kind: api.Star}}
	round[0].Kids = round
	wide := node(api.Alt, make([]api.Re, 1<<20)...)
	if rex.May(x) || rex.May(round[0]) || rex.May(wide) {
		t.Error("P0.1, P3.1: May of one with very many nodes")
	}
}

func TestMayOfSeveral(t *testing.T) {
	if !rex.May() || !rex.May([]api.Re{}...) {
		t.Error("P3.1, P0.4: May of none")
	}
	if !rex.May(class('a'), node(api.Star, class('b')), api.Re{Kind: api.Eps}) {
		t.Error("P3.1: May of three")
	}
	for place := range 3 {
		l := []api.Re{class('a'), class('b'), class('c')}
		l[place] = api.Re{}
		if rex.May(l...) {
			t.Error("P3.1: May of several, the wrong one at", place)
		}
	}
}

func TestSize(t *testing.T) {
	for _, c := range []struct {
		l    []api.Re
		want int
	}{
		{nil, 0},
		{[]api.Re{}, 0},
		{[]api.Re{{}}, 1},
		{[]api.Re{{}, {}}, 2},
		{[]api.Re{{Kind: 200}}, 1},
		{[]api.Re{class('a')}, 1},
		{[]api.Re{rex.Word("ab")}, 3},
		{[]api.Re{rex.Word("ab"), class('a'), rex.Many(class('a'))}, 6},
		{[]api.Re{node(0, api.Re{}, api.Re{}, node(9, api.Re{}))}, 5},
		{[]api.Re{tower(api.Star, 65535, class('a'))}, 65536},
		{[]api.Re{rightComb(api.Seq, 131071)}, 131071},
		{[]api.Re{leftComb(api.Seq, 131071)}, 131071},
		{[]api.Re{node(api.Alt, make([]api.Re, 100000)...)}, 100001},
	} {
		if n := rex.Size(c.l...); n != c.want {
			t.Errorf("P3.1: Size is %d, not %d", n, c.want)
		}
	}
	sum := 0
	l := someExpressions()
	for _, x := range l {
		n := len(nodes(&x))
		sum += n
		if rex.Size(x) != n || rex.Size(x, x) != 2*n {
			t.Fatalf("P3.1: Size of %v is %d, not %d", x, rex.Size(x), n)
		}
	}
	if rex.Size(l...) != sum {
		t.Error("P3.1: Size of many", rex.Size(l...), sum)
	}
}

func TestSame(t *testing.T) {
	l := someExpressions()
	for i, x := range l {
		if !rex.Same(x, x) || !rex.Same(x, copyOf(x)) {
			t.Fatalf("P3.1: Same of %v and itself", x)
		}
		for j := i; j < len(l); j += 1 + i%7 {
			want := dump(x) == dump(l[j])
			if rex.Same(x, l[j]) != want || rex.Same(l[j], x) != want {
				t.Fatalf("P3.1: Same of %v and %v isn't %v", x, l[j], want)
			}
		}
	}
}

func TestSameTellsEveryChange(t *testing.T) {
	for _, x := range someExpressions()[:300] {
		for i := range nodes(&x) {
			for what, change := range []func(n *api.Re){
				func(n *api.Re) { n.Kind++ },
				func(n *api.Re) { n.Set[0] ^= 1 },
				func(n *api.Re) { n.Set[3] ^= 1 << 63 },
				func(n *api.Re) { n.Kids = append(slices.Clone(n.Kids), api.Re{}) },
				func(n *api.Re) { n.Kids = append([]api.Re{{Kind: 77}}, n.Kids...) },
			} {
				y := copyOf(x)
				change(nodes(&y)[i])
				if rex.Same(x, y) || rex.Same(y, x) {
					t.Fatalf("P3.1: Same of %v and one with the change %d at the node %d", x, what, i)
				}
			}
		}
	}
}

func TestSameAtTheEdges(t *testing.T) {
	a, b := class('a'), class('b')
	if !rex.Same(api.Re{}, api.Re{}) || !rex.Same(api.Re{Kind: api.Eps, Kids: []api.Re{}}, api.Re{Kind: api.Eps}) {
		t.Error("P3.1, P0.4: Same of zero ones, or of empty and nil lists")
	}
	if rex.Same(node(api.Alt, a, b), node(api.Alt, b, a)) || rex.Same(node(api.Alt, a, a), node(api.Alt, a)) || rex.Same(node(api.Star, a), a) {
		t.Error("P3.1: Same of such that fit the same texts")
	}
	deep := tower(api.Star, 65535, a)
	if !rex.Same(deep, tower(api.Star, 65535, a)) || rex.Same(deep, tower(api.Star, 65535, b)) || rex.Same(deep, tower(api.Star, 65534, a)) {
		t.Error("P3.1, P0.1: Same of deep ones")
	}
}

func TestOf(t *testing.T) {
	if x := rex.Of(api.Set{}); dump(x) != dump(api.Re{Kind: api.Empty}) {
		t.Error("P3.1: Of the empty set", x)
	}
	for b := range 256 {
		if x := rex.Of(set.Of(byte(b))); dump(x) != dump(class(byte(b))) || !rex.May(x) {
			t.Error("P3.1: Of the byte", b, x)
		}
	}
	for _, s := range []api.Set{{1}, {0, 1}, {0, 0, 1}, {0, 0, 0, 1}, {1 << 63}, {0, 0, 0, 1 << 63}, everyByte} {
		if x := rex.Of(s); dump(x) != dump(api.Re{Kind: api.Class, Set: s}) {
			t.Errorf("P3.1: Of %x is %v", s, x)
		}
	}
}

// chained builds in the chapter's words what Then and Or must answer.
func chained(kind, ofNone uint8, l []api.Re) api.Re {
	switch len(l) {
	case 0:
		return api.Re{Kind: ofNone}
	case 1:
		return l[0]
	}
	return node(kind, l[0], chained(kind, ofNone, l[1:]))
}

func TestThenAndOr(t *testing.T) {
	r := rand.New(rand.NewSource(4))
	all := someExpressions()
	for n := range 300 {
		l := make([]api.Re, n%12)
		for i := range l {
			l[i] = all[r.Intn(len(all))]
		}
		if got, want := rex.Then(l...), chained(4, 2, l); dump(got) != dump(want) {
			t.Fatalf("P3.1: Then of %v is %v", l, got)
		}
		if got, want := rex.Or(l...), chained(5, 1, l); dump(got) != dump(want) {
			t.Fatalf("P3.1: Or of %v is %v", l, got)
		}
	}
}

func TestThenAndOrOfFew(t *testing.T) {
	a, b, c := class('a'), class('b'), class('c')
	eps, empty := api.Re{Kind: api.Eps}, api.Re{Kind: api.Empty}
	for name, pair := range map[string][2]api.Re{
		"Then of none":              {rex.Then(), eps},
		"Then of an empty list":     {rex.Then([]api.Re{}...), eps},
		"Or of none":                {rex.Or(), empty},
		"Or of an empty list":       {rex.Or([]api.Re{}...), empty},
		"Then of one":               {rex.Then(a), a},
		"Or of one":                 {rex.Or(a), a},
		"Then of one that can't be": {rex.Then(api.Re{}), {}},
		"Or of one that can't be":   {rex.Or(node(99, a)), node(99, a)},
		"Then of three":             {rex.Then(a, b, c), node(api.Seq, a, node(api.Seq, b, c))},
		"Or of three":               {rex.Or(a, b, c), node(api.Alt, a, node(api.Alt, b, c))},
		"Then with Eps":             {rex.Then(eps, a, eps), node(api.Seq, eps, node(api.Seq, a, eps))},
		"Then with Empty":           {rex.Then(empty, a), node(api.Seq, empty, a)},
		"Or with Empty":             {rex.Or(empty, empty), node(api.Alt, empty, empty)},
		"Or of the same":            {rex.Or(a, a), node(api.Alt, a, a)},
		"Then of a Seq ahead":       {rex.Then(node(api.Seq, a, b), c), node(api.Seq, node(api.Seq, a, b), c)},
		"Or of an Alt ahead":        {rex.Or(node(api.Alt, a, b), c), node(api.Alt, node(api.Alt, a, b), c)},
		"Many of a Class":           {rex.Many(a), node(api.Star, a)},
		"Many of a Star":            {rex.Many(rex.Many(a)), node(api.Star, node(api.Star, a))},
		"Many of Eps":               {rex.Many(eps), node(api.Star, eps)},
		"Many of Empty":             {rex.Many(empty), node(api.Star, empty)},
		"Many of one that can't be": {rex.Many(api.Re{}), node(api.Star, api.Re{})},
		"Then of a Class with kids": {rex.Then(node(api.Class, a)), node(api.Class, a)},
		"Or of an Eps with a set":   {rex.Or(api.Re{Kind: api.Eps, Set: everyByte}), {Kind: api.Eps, Set: everyByte}},
		"Then of one with no kids":  {rex.Then(api.Re{Kind: api.Eps, Kids: []api.Re{a}[:0]}), eps},
	} {
		if dump(pair[0]) != dump(pair[1]) {
			t.Errorf("P3.1: %s is %v, not %v", name, pair[0], pair[1])
		}
	}
}

func TestManyOfMany(t *testing.T) {
	for _, x := range someExpressions() {
		if got := rex.Many(x); dump(got) != dump(node(api.Star, x)) {
			t.Fatalf("P3.1: Many of %v is %v", x, got)
		}
	}
}

func TestWord(t *testing.T) {
	for _, s := range []string{"", "a", "ab", "aa", "\x00", "\xff\x00\xff", "\u00e4", "\xc3", "\U0001d7ce", "a*(b|[c].)\\-", strings.Repeat("xyz", 300)} {
		var l []api.Re
		for _, b := range []byte(s) {
			l = append(l, class(b))
		}
		if got, want := rex.Word(s), chained(4, 2, l); dump(got) != dump(want) {
			t.Errorf("P3.1: Word of %q is %v", s, got)
		}
	}
	for b := range 256 {
		if got := rex.Word(string([]byte{byte(b)})); dump(got) != dump(class(byte(b))) {
			t.Error("P3.1: Word of the byte", b, got)
		}
	}
	if rex.Size(rex.Word("ab")) != 3 {
		t.Error("P3.1: Word of ab has", rex.Size(rex.Word("ab")), "nodes")
	}
}

func TestLargeOnes(t *testing.T) {
	long := rex.Word(strings.Repeat("ab", 1<<15))
	if rex.Size(long) != 1<<17-1 || !rex.Same(long, rex.Then(long)) || rex.May(long) {
		t.Error("P0.1, P3.1: Word of 65536 bytes")
	}
	deep := tower(api.Star, 65534, class('a'))
	if !rex.Same(rex.Many(deep), tower(api.Star, 65535, class('a'))) {
		t.Error("P0.1, P3.1: Many of a deep one")
	}
	l := make([]api.Re, 1<<16)
	for i := range l {
		l[i] = class(byte(i))
	}
	if n := rex.Size(rex.Or(l...)); n != 1<<17-1 {
		t.Error("P0.1, P3.1: Or of 65536 has", n, "nodes")
	}
	if n := rex.Size(rex.Then(make([]api.Re, 1<<16)...)); n != 1<<17-1 {
		t.Error("P0.1, P3.1: Then of 65536 zero ones has", n, "nodes")
	}
}

// scribble writes into every list of an expression, and into the room behind its end.
func scribble(r api.Re) {
	for i := range r.Kids {
		scribble(r.Kids[i])
		r.Kids[i] = api.Re{Kind: 99}
	}
	room := r.Kids[len(r.Kids):cap(r.Kids)]
	for i := range room {
		room[i] = api.Re{Kind: 98}
	}
}

// makers are the calls that answer expressions made of others.
func makers() map[string]func(x api.Re) api.Re {
	return map[string]func(x api.Re) api.Re{
		"Then of one":   func(x api.Re) api.Re { return rex.Then(x) },
		"Then of three": func(x api.Re) api.Re { return rex.Then(x, x, x) },
		"Or of one":     func(x api.Re) api.Re { return rex.Or(x) },
		"Or of three":   func(x api.Re) api.Re { return rex.Or(x, x, x) },
		"Many":          func(x api.Re) api.Re { return rex.Many(x) },
		"Word":          func(api.Re) api.Re { return rex.Word("abc") },
	}
}

func TestAnswersAreNewMemory(t *testing.T) {
	for name, made := range makers() {
		for _, x := range someExpressions() {
			before := dump(x)
			answer, other := made(x), made(x)
			want := dump(other)
			scribble(answer)
			if dump(x) != before || dump(other) != want || dump(made(x)) != want {
				t.Fatalf("P0.3: what is written into what %s answers of %s shows elsewhere", name, before)
			}
		}
	}
}

func TestArgumentsAreNotKept(t *testing.T) {
	for name, made := range makers() {
		for _, x := range someExpressions() {
			mine := copyOf(x)
			answer := made(mine)
			want := dump(answer)
			scribble(mine)
			if dump(answer) != want {
				t.Fatalf("P0.3: %s keeps what it was handed: %v", name, x)
			}
		}
	}
	l := []api.Re{class('a'), class('b'), class('c')}
	then, or := rex.Then(l...), rex.Or(l...)
	l[0], l[2] = api.Re{}, api.Re{}
	if dump(then) != dump(node(4, class('a'), node(4, class('b'), class('c')))) || dump(or) != dump(node(5, class('a'), node(5, class('b'), class('c')))) {
		t.Error("P0.3: Then or Or keeps the list that it was handed", then, or)
	}
}

// items are the places of all items of an expression's lists.
func items(r *api.Re) []*api.Re {
	return nodes(r)[1:]
}

func TestListsOfOneAnswerShareNothing(t *testing.T) {
	for name, made := range makers() {
		for _, x := range someExpressions() {
			answer := made(x)
			met := map[*api.Re]bool{}
			for _, p := range append(items(&answer), items(&x)...) {
				if met[p] {
					t.Fatalf("P0.3: two lists of what %s answers, or one of them and what was handed in, share memory", name)
				}
				met[p] = true
			}
		}
	}
}

func TestRoomBehindListsStays(t *testing.T) {
	room := []api.Re{class('a'), class('b'), {Kind: 77}, {Kind: 78}}
	x := api.Re{Kind: api.Seq, Kids: room[:2]}
	bare := api.Re{Kind: api.Eps, Kids: room[:0]}
	scribble(rex.Then(x))
	scribble(rex.Then(bare))
	scribble(rex.Or(bare, x))
	scribble(rex.Many(bare))
	scribble(rex.Then(room[:2]...))
	scribble(rex.Or(room[:2]...))
	rex.May(room[:2]...)
	rex.Size(room[:2]...)
	rex.Same(x, x)
	for i, want := range []api.Re{class('a'), class('b'), {Kind: 77}, {Kind: 78}} {
		if dump(room[i]) != dump(want) {
			t.Error("P0.3: a list that was handed in has changed at", i, room[i])
		}
	}
}

func TestAnswersStayTheSame(t *testing.T) {
	l := someExpressions()
	for i, x := range l {
		y := l[len(l)-1-i]
		may, size, same, then, or := rex.May(x), rex.Size(x, y), rex.Same(x, y), dump(rex.Then(x, y)), dump(rex.Or(x, y))
		rex.May(y, x)
		rex.Many(y)
		if rex.May(x) != may || rex.Size(x, y) != size || rex.Same(x, y) != same || dump(rex.Then(x, y)) != then || dump(rex.Or(x, y)) != or {
			t.Fatalf("P0.5: %v is answered in two ways", x)
		}
	}
}
