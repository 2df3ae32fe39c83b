package show_test

import (
	"fmt"
	"math"
	"math/rand"
	"strings"
	"testing"

	"quill/api"
	"quill/rex"
	"quill/set"
	"quill/show"
)

var everyByte = api.Set{math.MaxUint64, math.MaxUint64, math.MaxUint64, math.MaxUint64}

func class(l ...byte) api.Re { return api.Re{Kind: api.Class, Set: set.Of(l...)} }

func node(kind uint8, kids ...api.Re) api.Re { return api.Re{Kind: kind, Kids: kids} }

// dump writes every node of an expression out, so that two dumps are alike just if the expressions are, node by node.
func dump(r api.Re) string {
	var b strings.Builder
	fmt.Fprintf(&b, "%d %x{", r.Kind, r.Set)
	for _, kid := range r.Kids {
		b.WriteString(dump(kid))
	}
	b.WriteString("}")
	return b.String()
}

// copyOf is the same expression, in memory of its own.
func copyOf(r api.Re) api.Re {
	out := api.Re{Kind: r.Kind, Set: r.Set}
	for _, kid := range r.Kids {
		out.Kids = append(out.Kids, copyOf(kid))
	}
	return out
}

// nodes are all nodes of an expression, by their places.
func nodes(r *api.Re) []*api.Re {
	out := []*api.Re{r}
	for i := range r.Kids {
		out = append(out, nodes(&r.Kids[i])...)
	}
	return out
}

// tower is a leaf with nodes of one kid each around it.
func tower(kind uint8, height int, leaf api.Re) api.Re {
	for range height {
		leaf = node(kind, leaf)
	}
	return leaf
}

// rightComb is a chain of nodes with two kids, the second one of them the chain's rest, of an odd number of nodes.
func rightComb(kind uint8, size int) api.Re {
	out := class('a')
	for range size / 2 {
		out = node(kind, class('b'), out)
	}
	return out
}

func leftComb(kind uint8, size int) api.Re {
	out := class('a')
	for range size / 2 {
		out = node(kind, out, class('b'))
	}
	return out
}

// someSet is one of few bytes, of a run, of nearly all, or of all.
func someSet(r *rand.Rand) api.Set {
	b := byte(r.Intn(256))
	switch r.Intn(6) {
	case 0:
		return set.Of(b)
	case 1:
		return set.Of("\\|*()[].- "[r.Intn(10)])
	case 2:
		return set.Join(set.Range(b/2, b), set.Of('a'))
	case 3:
		return set.Less(everyByte, set.Of(b))
	case 4:
		return everyByte
	}
	return set.Of(b, byte(r.Intn(256)), '|')
}

// goodExpression is one that may be.
func goodExpression(r *rand.Rand, depth int) api.Re {
	kind := uint8(1 + r.Intn(6))
	if depth == 0 {
		kind = uint8(1 + r.Intn(3))
	}
	switch kind {
	case api.Class:
		return rex.Of(someSet(r))
	case api.Seq, api.Alt:
		return node(kind, goodExpression(r, depth-1), goodExpression(r, depth-1))
	case api.Star:
		return node(kind, goodExpression(r, depth-1))
	}
	return api.Re{Kind: kind}
}

func goodExpressions() []api.Re {
	r := rand.New(rand.NewSource(6))
	var out []api.Re
	for range 2000 {
		out = append(out, goodExpression(r, r.Intn(8)))
	}
	return out
}

// small are all expressions of so many nodes, of leaves that hold brackets and signs against each other.
func small(size int) []api.Re {
	if size == 1 {
		return []api.Re{{Kind: api.Empty}, {Kind: api.Eps}, class('a'), class('|'), class('a', 'b'), {Kind: api.Class, Set: everyByte}}
	}
	var out []api.Re
	for _, kid := range small(size - 1) {
		out = append(out, node(api.Star, kid))
	}
	for first := 1; first < size-1; first++ {
		for _, a := range small(first) {
			for _, b := range small(size - 1 - first) {
				out = append(out, node(api.Seq, a, b), node(api.Alt, a, b))
			}
		}
	}
	return out
}

func smallOnes() []api.Re {
	var out []api.Re
	for size := 1; size <= 7; size++ {
		out = append(out, small(size)...)
	}
	return out
}

// wrongNodes are such that may not be, wherever they stand.
func wrongNodes() []api.Re {
	a := class('a')
	return []api.Re{
		{},
		{Kind: 7},
		{Kind: 255},
		{Kind: 0, Set: set.Of('a')},
		{Kind: api.Class},
		{Kind: api.Empty, Set: set.Of(0)},
		{Kind: api.Eps, Set: everyByte},
		node(api.Empty, a),
		node(api.Eps, a),
		{Kind: api.Class, Set: set.Of('a'), Kids: []api.Re{a}},
		node(api.Seq),
		node(api.Seq, a),
		node(api.Seq, a, a, a),
		{Kind: api.Seq, Set: set.Of('a'), Kids: []api.Re{a, a}},
		node(api.Alt),
		node(api.Alt, a),
		node(api.Alt, a, a, a),
		{Kind: api.Alt, Set: set.Of(255), Kids: []api.Re{a, a}},
		node(api.Star),
		node(api.Star, a, a),
		{Kind: api.Star, Set: set.Of('a'), Kids: []api.Re{a}},
		node(8, a, a),
	}
}

// bracketed tells, in the chapter's words, whether a kid, at its place, of a node of that kind stands in round brackets.
func bracketed(kind uint8, place int, kid uint8) bool {
	switch kind {
	case 4:
		return kid == 5 || place == 0 && kid == 4
	case 5:
		return place == 0 && kid == 5
	}
	return kid == 4 || kid == 5
}

// plainText works out in the plainest way what the text of one that may be is.
func plainText(r api.Re) string {
	var parts []string
	for i, kid := range r.Kids {
		part := plainText(kid)
		if bracketed(r.Kind, i, kid.Kind) {
			part = "(" + part + ")"
		}
		parts = append(parts, part)
	}
	return map[uint8]string{
		1: "[]",
		2: "()",
		3: set.Text(r.Set),
		4: strings.Join(parts, ""),
		5: strings.Join(parts, "|"),
		6: strings.Join(parts, "") + "*",
	}[r.Kind]
}

func TestNumbersOfLimits(t *testing.T) {
	if api.MaxText != 65536 || api.MaxNodes != 2000 {
		t.Error("T6: MaxText and MaxNodes are", api.MaxText, api.MaxNodes)
	}
}

func TestTextOfEveryPairOfKinds(t *testing.T) {
	a, b, c := class('a'), class('b'), class('c')
	empty, eps := rex.Or(), rex.Then()
	seq, alt, star := node(api.Seq, a, b), node(api.Alt, a, b), node(api.Star, a)
	for _, line := range []struct {
		r    api.Re
		want string
	}{
		{empty, "[]"}, {eps, "()"}, {c, "c"},
		{node(api.Seq, empty, c), "[]c"}, {node(api.Seq, c, empty), "c[]"},
		{node(api.Seq, eps, c), "()c"}, {node(api.Seq, c, eps), "c()"},
		{node(api.Seq, a, c), "ac"}, {node(api.Seq, c, a), "ca"},
		{node(api.Seq, seq, c), "(ab)c"}, {node(api.Seq, c, seq), "cab"},
		{node(api.Seq, alt, c), "(a|b)c"}, {node(api.Seq, c, alt), "c(a|b)"},
		{node(api.Seq, star, c), "a*c"}, {node(api.Seq, c, star), "ca*"},
		{node(api.Alt, empty, c), "[]|c"}, {node(api.Alt, c, empty), "c|[]"},
		{node(api.Alt, eps, c), "()|c"}, {node(api.Alt, c, eps), "c|()"},
		{node(api.Alt, a, c), "a|c"}, {node(api.Alt, c, a), "c|a"},
		{node(api.Alt, seq, c), "ab|c"}, {node(api.Alt, c, seq), "c|ab"},
		{node(api.Alt, alt, c), "(a|b)|c"}, {node(api.Alt, c, alt), "c|a|b"},
		{node(api.Alt, star, c), "a*|c"}, {node(api.Alt, c, star), "c|a*"},
		{node(api.Star, empty), "[]*"}, {node(api.Star, eps), "()*"}, {node(api.Star, c), "c*"},
		{node(api.Star, seq), "(ab)*"}, {node(api.Star, alt), "(a|b)*"}, {node(api.Star, star), "a**"},
		{node(api.Seq, seq, seq), "(ab)ab"}, {node(api.Seq, alt, alt), "(a|b)(a|b)"},
		{node(api.Alt, alt, alt), "(a|b)|a|b"}, {node(api.Alt, seq, seq), "ab|ab"},
		{node(api.Star, node(api.Star, alt)), "(a|b)**"},
		{node(api.Seq, node(api.Seq, alt, c), c), "((a|b)c)c"},
	} {
		if got := show.Text(line.r); got != line.want {
			t.Errorf("P5.1: Text of %v is %q, not %q", line.r, got, line.want)
		}
	}
}

func TestExamples(t *testing.T) {
	a, b, c, d := class('a'), class('b'), class('c'), class('d')
	if got := show.Text(rex.Then(a, rex.Or(b, c), rex.Many(a))); got != "a(b|c)a*" {
		t.Error("P5.1: the chapter's example is", got)
	}
	if got := show.Text(rex.Then(a, rex.Many(rex.Or(b, c)), d)); got != "a(b|c)*d" {
		t.Error("P5.1: the first example of the whole is", got)
	}
}

func TestTextOfEveryClass(t *testing.T) {
	for i := range 256 {
		b := byte(i)
		want := string([]byte{b})
		if b <= ' ' || b >= 0x7f || strings.IndexByte(`\|*()[].-`, b) >= 0 {
			want = fmt.Sprintf("\\%02x", b)
		}
		if got := show.Text(class(b)); got != want {
			t.Errorf("P5.1: Text of the byte %d is %q, not %q", b, got, want)
		}
		if got := show.Text(rex.Many(class(b))); got != want+"*" {
			t.Errorf("P5.1: Text of the byte %d, many, is %q", b, got)
		}
	}
	for want, s := range map[string]api.Set{
		`.`:            everyByte,
		`[ab]`:         set.Of('a', 'b'),
		`[a-c]`:        set.Range('a', 'c'),
		`[\01-\ff]`:    set.Range(1, 255),
		`[\28-\2a\7c]`: set.Of('(', ')', '*', '|'),
	} {
		if got := show.Text(rex.Of(s)); got != want {
			t.Errorf("P5.1: Text of %x is %q, not %q", s, got, want)
		}
	}
}

func TestTextOfMany(t *testing.T) {
	for _, r := range append(smallOnes(), goodExpressions()...) {
		want := plainText(r)
		if got := show.Text(r); got != want {
			t.Fatalf("P5.1: Text of %v is %q, not %q", r, got, want)
		}
		if !show.Fits(r) {
			t.Fatalf("P5.1: %q doesn't fit", want)
		}
	}
}

func TestWrongNodesEverywhere(t *testing.T) {
	good := rex.Then(rex.Or(class('a'), rex.Many(class('b'))), rex.Then(), rex.Or(), rex.Many(rex.Word("abc")))
	if show.Text(good) != "(a|b*)()[](abc)*" {
		t.Error("P5.1: Text of a good one is", show.Text(good))
	}
	for i := range nodes(&good) {
		for _, wrong := range wrongNodes() {
			r := copyOf(good)
			*nodes(&r)[i] = wrong
			if got := show.Text(r); got != "" || show.Fits(r) || show.Lines(r) != "\n" {
				t.Errorf("P5.1: one with %v at the node %d has the text %q, or fits", wrong, i, got)
			}
		}
	}
}

func TestAtTheMostNodes(t *testing.T) {
	for _, c := range []struct {
		name string
		r    api.Re
		want string
	}{
		{"2000 nodes, Stars", tower(api.Star, 1999, class('a')), "a" + strings.Repeat("*", 1999)},
		{"2001 nodes, Stars", tower(api.Star, 2000, class('a')), ""},
		{"1999 nodes, a row", rightComb(api.Seq, 1999), strings.Repeat("b", 999) + "a"},
		{"2000 nodes, a row", node(api.Star, rightComb(api.Seq, 1999)), "(" + strings.Repeat("b", 999) + "a)*"},
		{"2001 nodes, a row", rightComb(api.Seq, 2001), ""},
		{"1999 nodes, one of many", rightComb(api.Alt, 1999), strings.Repeat("b|", 999) + "a"},
		{"2001 nodes, one of many", rightComb(api.Alt, 2001), ""},
		{"1999 nodes, a row nested left", leftComb(api.Seq, 1999), strings.Repeat("(", 998) + "ab" + strings.Repeat(")b", 998)},
		{"2001 nodes, a row nested left", leftComb(api.Seq, 2001), ""},
		{"1999 nodes, one of many nested left", leftComb(api.Alt, 1999), strings.Repeat("(", 998) + "a|b" + strings.Repeat(")|b", 998)},
		{"2000 nodes, the last one wrong", tower(api.Star, 1999, api.Re{}), ""},
		{"65536 nodes, Stars", tower(api.Star, 65535, class('a')), ""},
	} {
		if show.Text(c.r) != c.want || show.Lines(c.r) != c.want+"\n" || show.Fits(c.r) != (c.want != "") {
			t.Errorf("P5.1: Text, Lines or Fits of %s", c.name)
		}
	}
	most := tower(api.Star, 1999, class('a'))
	if !show.Fits(most, most, most) || len(show.Lines(most, most)) != 2*2001 {
		t.Error("P5.1: the nodes of several are counted together")
	}
}

func TestExpressionsThatGrowWithoutBound(t *testing.T) {
	x := class('a')
	for range 60 {
		x = node(api.Seq, x, x)
	}
	round := []api.Re{{Kind: api.Star}}
	round[0].Kids = round
	wide := node(api.Alt, make([]api.Re, 1<<20)...)
	for _, r := range []api.Re{x, round[0], wide} {
		if show.Text(r) != "" || show.Lines(r) != "\n" || show.Fits(r) {
			t.Error("P0.1, P5.1: one with very many nodes has a text, or fits")
		}
	}
}

// ofLength is an expression that may be, whose text has so many bytes.
func ofLength(n int) api.Re {
	var bytes []byte
	for b := 128; b < 256; b += 4 {
		bytes = append(bytes, byte(b))
	}
	long := class(bytes...) // 32 bytes that no two of follow one another: 32 signs of three bytes, and two brackets
	var l []api.Re
	for range n / 98 {
		l = append(l, long)
	}
	for range n % 98 {
		l = append(l, class('a'))
	}
	return rex.Then(l...)
}

func TestFitsAtTheLongestText(t *testing.T) {
	for _, c := range []struct {
		n    int
		want bool
	}{{1, true}, {98, true}, {65535, true}, {65536, true}, {65537, false}, {65538, false}, {80000, false}} {
		r := ofLength(c.n)
		if got := len(show.Text(r)); got != c.n || show.Text(r) != plainText(r) {
			t.Errorf("P5.1: a text of %d bytes has %d, or others", c.n, got)
		}
		if show.Fits(r) != c.want {
			t.Errorf("P5.1: whether a text of %d bytes fits isn't %v", c.n, c.want)
		}
		if show.Lines(r) != show.Text(r)+"\n" {
			t.Errorf("P5.1: Lines of a text of %d bytes", c.n)
		}
	}
	most := ofLength(65536)
	if !show.Fits(most, most, most) {
		t.Error("P5.1: the texts of several are counted together")
	}
	if many := rex.Many(ofLength(65533)); len(show.Text(many)) != 65536 || !show.Fits(many) {
		t.Error("P5.1: a text of 65536 bytes, with brackets, doesn't fit")
	}
	if many := rex.Many(ofLength(65534)); len(show.Text(many)) != 65537 || show.Fits(many) {
		t.Error("P5.1: a text of 65537 bytes, with brackets, fits")
	}
}

func TestTheLongestOfAll(t *testing.T) {
	odd := api.Set{0xaaaaaaaaaaaaaaaa, 0xaaaaaaaaaaaaaaaa, 0xaaaaaaaaaaaaaaaa, 0xaaaaaaaaaaaaaaaa}
	r := rex.Of(odd)
	for range 999 {
		r = node(api.Alt, r, rex.Of(odd))
	}
	if got, want := len(show.Text(r)), 1000*len(set.Text(odd))+999+2*998; got != want || show.Fits(r) {
		t.Error("P0.1, P5.1: the longest text has", got, "bytes, not", want)
	}
}

func TestFitsOfSeveral(t *testing.T) {
	if !show.Fits() || !show.Fits([]api.Re{}...) {
		t.Error("P5.1, P0.4: Fits of none")
	}
	good := []api.Re{rex.Then(), rex.Or(), class('a'), rex.Word("ab")}
	if !show.Fits(good...) {
		t.Error("P5.1: Fits of four")
	}
	for place := range good {
		for _, wrong := range append(wrongNodes(), ofLength(65537), rightComb(api.Alt, 2001)) {
			l := append([]api.Re{}, good...)
			l[place] = wrong
			if show.Fits(l...) {
				t.Error("P5.1: Fits of several, the wrong one at", place)
			}
		}
	}
}

func TestLinesOfSeveral(t *testing.T) {
	if show.Lines() != "" || show.Lines([]api.Re{}...) != "" {
		t.Error("P5.1, P0.4: Lines of none")
	}
	a, wrong, long := class('a'), api.Re{Kind: api.Star}, ofLength(65537)
	for _, c := range []struct {
		l    []api.Re
		want string
	}{
		{[]api.Re{a}, "a\n"},
		{[]api.Re{wrong}, "\n"},
		{[]api.Re{wrong, wrong}, "\n\n"},
		{[]api.Re{a, a, class('\n')}, "a\na\n\\0a\n"},
		{[]api.Re{a, wrong, rex.Word("ab")}, "a\n\nab\n"},
		{[]api.Re{wrong, rex.Or(a, a), rex.Then()}, "\na|a\n()\n"},
		{[]api.Re{rex.Or(), long, a}, "[]\n" + plainText(long) + "\na\n"},
	} {
		if got := show.Lines(c.l...); got != c.want {
			t.Errorf("P5.1: Lines of %d is %.80q", len(c.l), got)
		}
	}
	all, want := goodExpressions(), ""
	for _, r := range all {
		want += plainText(r) + "\n"
	}
	if show.Lines(all...) != want {
		t.Error("P5.1: Lines of many")
	}
}

func TestUnlikeOnesHaveUnlikeTexts(t *testing.T) {
	met := map[string]string{}
	for _, r := range append(smallOnes(), goodExpressions()...) {
		text, whole := show.Text(r), dump(r)
		if other, ok := met[text]; ok && other != whole {
			t.Fatalf("P5.2: %s and %s have the text %q", whole, other, text)
		}
		met[text] = whole
	}
	if len(met) < 20000 {
		t.Error("P5.2: too few unlike expressions", len(met))
	}
	if _, ok := met[""]; ok {
		t.Error("P5.2: one that may be has the text of such that may not")
	}
}

func TestUnlikeClassesHaveUnlikeTexts(t *testing.T) {
	r := rand.New(rand.NewSource(7))
	met := map[string]api.Set{"[]": {}, "()": {}}
	for range 20000 {
		s := set.Join(someSet(r), someSet(r))
		text := show.Text(rex.Of(s))
		if other, ok := met[text]; ok && other != s {
			t.Fatalf("P5.2: %x and %x have the text %q", s, other, text)
		}
		met[text] = s
	}
}

// near are all expressions that are one with one node changed.
func near(r api.Re) []api.Re {
	var out []api.Re
	for i, n := range nodes(&r) {
		for _, other := range []api.Re{{Kind: api.Empty}, {Kind: api.Eps}, class('b'), {Kind: api.Class, Set: everyByte}, node(api.Star, *n), node(api.Seq, *n, class('a')), node(api.Alt, class('a'), *n)} {
			changed := copyOf(r)
			*nodes(&changed)[i] = other
			out = append(out, changed)
		}
		if n.Kind == api.Seq || n.Kind == api.Alt {
			turned, other := copyOf(r), copyOf(r)
			kids := nodes(&turned)[i].Kids
			kids[0], kids[1] = kids[1], kids[0]
			nodes(&other)[i].Kind = api.Seq + api.Alt - n.Kind
			out = append(out, turned, other)
		}
	}
	return out
}

func TestNearOnesHaveUnlikeTexts(t *testing.T) {
	for _, r := range goodExpressions()[:300] {
		text := show.Text(r)
		for _, other := range near(r) {
			if (show.Text(other) == text) != rex.Same(r, other) {
				t.Fatalf("P5.2: %v and %v have the text %q", r, other, text)
			}
		}
	}
}

func TestNilKidsAreNoKids(t *testing.T) {
	for _, r := range []api.Re{{Kind: api.Empty}, {Kind: api.Eps}, class('a'), {Kind: api.Star}} {
		bare := r
		bare.Kids = []api.Re{}
		if show.Text(r) != show.Text(bare) || show.Fits(r) != show.Fits(bare) {
			t.Error("P0.4: no kids aren't the same as nil ones", r)
		}
	}
}

func TestWhatIsHandedInStays(t *testing.T) {
	room := []api.Re{class('b'), class('a'), {Kind: 77}, {Kind: 78}}
	l := append(goodExpressions(), api.Re{Kind: api.Seq, Kids: room[:2]}, api.Re{Kind: api.Eps, Kids: room[:0]})
	before := dump(node(0, l...))
	for _, r := range l {
		show.Text(r)
	}
	show.Lines(l...)
	show.Lines(room[:2]...)
	show.Fits(l...)
	show.Fits(room[:2]...)
	if dump(node(0, l...)) != before || dump(node(0, room...)) != dump(node(0, class('b'), class('a'), api.Re{Kind: 77}, api.Re{Kind: 78})) {
		t.Error("P0.3: what was handed in has changed")
	}
}

func TestNothingIsKept(t *testing.T) {
	r := rex.Then(class('a'), rex.Or(class('b'), class('c')))
	text, lines := show.Text(r), show.Lines(r, r)
	r.Kids[1].Kids[0] = class('d')
	if text != "a(b|c)" || lines != "a(b|c)\na(b|c)\n" || show.Text(r) != "a(d|c)" {
		t.Error("P0.3: a text hangs on what was handed in and written into later", text, lines, show.Text(r))
	}
}

func TestAnswersStayTheSame(t *testing.T) {
	l := goodExpressions()
	lines := show.Lines(l...)
	for i, r := range l {
		text := show.Text(r)
		show.Text(l[len(l)-1-i])
		show.Fits(api.Re{}, r)
		if show.Text(r) != text || show.Text(copyOf(r)) != text {
			t.Fatalf("P0.5: %v is answered in two ways", r)
		}
	}
	if show.Lines(l...) != lines {
		t.Error("P0.5: Lines are answered in two ways")
	}
}
