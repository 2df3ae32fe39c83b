package order_test

import (
	"fmt"
	"math"
	"math/rand"
	"slices"
	"strings"
	"testing"

	"quill/api"
	"quill/order"
	"quill/rex"
	"quill/set"
)

var everyByte = api.Set{math.MaxUint64, math.MaxUint64, math.MaxUint64, math.MaxUint64}

func class(l ...byte) api.Re { return api.Re{Kind: api.Class, Set: set.Of(l...)} }

func node(kind uint8, kids ...api.Re) api.Re { return api.Re{Kind: kind, Kids: kids} }

// dump writes every node of an expression out, so that two dumps are alike just if the expressions are, node by node.
func dump(r api.Re) string {
	var b strings.Builder
	fmt.Fprintf(&b, "%d %x{", r.Kind, r.Set)
	for _, kid := range r.Kids {
		b.WriteString(dump(kid))
	}
	b.WriteString("}")
	return b.String()
}

func dumps(l []api.Re) string {
	var b strings.Builder
	for _, r := range l {
		b.WriteString(dump(r) + "\n")
	}
	return b.String()
}

// copyOf is the same expression, in memory of its own.
func copyOf(r api.Re) api.Re {
	out := api.Re{Kind: r.Kind, Set: r.Set}
	for _, kid := range r.Kids {
		out.Kids = append(out.Kids, copyOf(kid))
	}
	return out
}

func copiesOf(l []api.Re) []api.Re {
	return copyOf(node(0, l...)).Kids
}

// nodes are all nodes of an expression, by their places.
func nodes(r *api.Re) []*api.Re {
	out := []*api.Re{r}
	for i := range r.Kids {
		out = append(out, nodes(&r.Kids[i])...)
	}
	return out
}

// tower is a leaf with nodes of one kid each around it.
func tower(kind uint8, height int, leaf api.Re) api.Re {
	for range height {
		leaf = node(kind, leaf)
	}
	return leaf
}

// anyExpression may have any kinds, sets and kids; of few of each, so that many are the same, or nearly so.
func anyExpression(r *rand.Rand, depth int) api.Re {
	out := api.Re{Kind: uint8(r.Intn(3))}
	if r.Intn(10) == 0 {
		out.Kind = uint8(r.Intn(256))
	}
	if r.Intn(4) == 0 {
		out.Set[r.Intn(4)] = 1 << (63 * r.Intn(2))
	}
	if depth > 0 {
		for range r.Intn(4) {
			out.Kids = append(out.Kids, anyExpression(r, depth-1))
		}
	}
	return out
}

// someExpressions is a fixed row, with such that may not be among them, and many near ones.
func someExpressions() []api.Re {
	r := rand.New(rand.NewSource(4))
	out := []api.Re{{}, {Kind: api.Empty}, {Kind: api.Eps}, {Kind: api.Class}, class('a'), {Kind: api.Class, Set: everyByte}, {Kind: 255}}
	for range 80 {
		x := anyExpression(r, r.Intn(4))
		near := copyOf(x)
		all := nodes(&near)
		*all[r.Intn(len(all))] = anyExpression(r, r.Intn(2))
		out = append(out, x, near)
	}
	return out
}

// flat writes an expression as numbers, so that their order, number by number, is that of the chapter: behind each list stands a mark that comes ahead of every node.
func flat(r api.Re) []uint64 {
	out := []uint64{uint64(r.Kind) + 1}
	out = append(out, r.Set[:]...)
	for _, kid := range r.Kids {
		out = append(out, flat(kid)...)
	}
	return append(out, 0)
}

func plainOrder(a, b api.Re) int { return slices.Compare(flat(a), flat(b)) }

func TestTwoInTheChaptersOrder(t *testing.T) {
	a, b := class('a'), class('b')
	rising := []api.Re{
		{},
		{Kind: api.Empty},
		node(api.Empty, api.Re{}),
		{Kind: api.Empty, Set: api.Set{0, 0, 0, 1}},
		{Kind: api.Eps},
		{Kind: api.Class},
		{Kind: api.Class, Set: api.Set{0, 0, 0, 1}},
		{Kind: api.Class, Set: api.Set{0, 0, 0, 1 << 63}},
		{Kind: api.Class, Set: api.Set{0, 0, 1, 0}},
		a,
		b,
		class('a', 'b'),
		{Kind: api.Class, Set: api.Set{1}},
		{Kind: api.Class, Set: api.Set{1, 1}},
		{Kind: api.Class, Set: api.Set{1 << 63}},
		{Kind: api.Class, Set: everyByte},
		node(api.Seq),
		node(api.Seq, api.Re{}),
		node(api.Seq, api.Re{}, api.Re{}),
		node(api.Seq, rex.Or()),
		node(api.Seq, a),
		node(api.Seq, a, a),
		node(api.Seq, a, a, a),
		node(api.Seq, a, a, b),
		node(api.Seq, a, b),
		node(api.Seq, a, b, a),
		node(api.Seq, b),
		node(api.Seq, b, a),
		node(api.Seq, node(api.Seq)),
		node(api.Seq, node(api.Seq, a), a),
		node(api.Seq, node(api.Seq, a, a)),
		{Kind: api.Seq, Set: set.Of('a')},
		{Kind: api.Seq, Set: set.Of('a'), Kids: []api.Re{{}}},
		node(api.Alt, a, b),
		node(api.Star, rex.Or()),
		node(api.Star, a),
		node(api.Star, b),
		node(api.Star, node(api.Star, a)),
		node(7),
		node(128),
		node(255),
	}
	for i, x := range rising {
		for k, y := range rising {
			want := 0
			if i < k {
				want = -1
			}
			if i > k {
				want = 1
			}
			if got := order.Two(x, y); got != want {
				t.Errorf("P4.1: Two of %v and %v is %d", x, y, got)
			}
		}
	}
}

func TestEmptyAndEpsComeFirst(t *testing.T) {
	for _, x := range []api.Re{class('a'), class(0), class(255), rex.Word("ab"), rex.Or(class('a'), class('b')), rex.Many(rex.Or()), rex.Many(rex.Then())} {
		if order.Two(rex.Or(), x) != -1 || order.Two(rex.Then(), x) != -1 || order.Two(x, rex.Then()) != 1 {
			t.Error("P4.1: Empty or Eps doesn't come ahead of", x)
		}
	}
	if order.Two(rex.Or(), rex.Then()) != -1 {
		t.Error("P4.1: Empty doesn't come ahead of Eps")
	}
}

func TestTwoOfMany(t *testing.T) {
	l := someExpressions()
	met := map[int]int{}
	for i, x := range l {
		for k, y := range l {
			want := plainOrder(x, y)
			if i != k {
				met[want]++
			}
			if got := order.Two(x, y); got != want {
				t.Fatalf("P4.1: Two of %v and %v is %d, not %d", x, y, got, want)
			}
			if (order.Two(x, y) == 0) != rex.Same(x, y) {
				t.Fatalf("P4.1: Two tells otherwise than Same whether %v and %v are the same", x, y)
			}
		}
	}
	if met[-1] < 500 || met[0] < 500 || met[1] < 500 {
		t.Error("P4.1: too few pairs of one sort", met)
	}
}

func TestTheOrderIsTotal(t *testing.T) {
	l := someExpressions()
	two := make([][]int, len(l))
	for i, x := range l {
		for _, y := range l {
			two[i] = append(two[i], order.Two(x, y))
		}
	}
	for i := range l {
		for k := range l {
			if two[i][k] != -two[k][i] {
				t.Fatalf("P4.2: Two of %v and %v isn't turned round with them", l[i], l[k])
			}
			for m := range l {
				if two[i][k] <= 0 && two[k][m] <= 0 && two[i][m] != min(two[i][k], two[k][m]) {
					t.Fatalf("P4.2: %v, %v, %v go round", l[i], l[k], l[m])
				}
			}
		}
	}
}

func TestNilKidsAreNoKids(t *testing.T) {
	bare, empty := api.Re{Kind: api.Eps}, api.Re{Kind: api.Eps, Kids: []api.Re{}}
	if order.Two(bare, empty) != 0 || order.Two(empty, bare) != 0 || len(order.Once(bare, empty, bare)) != 1 {
		t.Error("P0.4: no kids aren't the same as nil ones")
	}
	if i, ok := order.First(bare, empty); !ok || i != 0 {
		t.Error("P0.4: First of two with no kids is at", i)
	}
}

// plainSort puts each expression behind all that don't come behind it.
func plainSort(l []api.Re) []api.Re {
	var out []api.Re
	for _, x := range l {
		i := 0
		for i < len(out) && plainOrder(out[i], x) <= 0 {
			i++
		}
		out = slices.Insert(out, i, x)
	}
	return out
}

func plainOnce(l []api.Re) []api.Re {
	var out []api.Re
	met := map[string]bool{}
	for _, x := range l {
		if !met[dump(x)] {
			out = append(out, x)
		}
		met[dump(x)] = true
	}
	return out
}

func plainFirst(l []api.Re) int {
	for i, x := range l {
		if !slices.ContainsFunc(l, func(y api.Re) bool { return plainOrder(y, x) < 0 }) {
			return i
		}
	}
	return 0
}

func TestListsOfEveryLength(t *testing.T) {
	r := rand.New(rand.NewSource(5))
	all := someExpressions()
	for n := range 60 {
		for _, choice := range []int{1, 3, 20, len(all)} {
			from := r.Intn(len(all))
			var l []api.Re
			for range n {
				l = append(l, all[(from+r.Intn(choice))%len(all)])
			}
			if got := order.Sort(l...); dumps(got) != dumps(plainSort(l)) {
				t.Fatalf("P4.1: Sort of %v is %v", l, got)
			}
			if got := order.Once(l...); dumps(got) != dumps(plainOnce(l)) {
				t.Fatalf("P4.1: Once of %v is %v", l, got)
			}
			if i, ok := order.First(l...); ok != (n > 0) || i != plainFirst(l) {
				t.Fatalf("P4.1: First of %v is %d, %v", l, i, ok)
			}
		}
	}
}

func TestListsOfNone(t *testing.T) {
	for _, l := range [][]api.Re{nil, {}} {
		if len(order.Sort(l...)) != 0 || len(order.Once(l...)) != 0 {
			t.Error("P4.1, P0.4: Sort or Once of none has some")
		}
		if i, ok := order.First(l...); i != 0 || ok {
			t.Error("P4.1, P0.4: First of none is", i, ok)
		}
	}
	if i, ok := order.First(api.Re{}); i != 0 || !ok {
		t.Error("P4.1: First of one is", i, ok)
	}
}

func TestTheSameOnes(t *testing.T) {
	a, b, eps := class('a'), class('b'), rex.Then()
	if got := order.Sort(b, a, b, eps, a); dumps(got) != dumps([]api.Re{eps, a, a, b, b}) {
		t.Error("P4.1: Sort doesn't keep the same ones", got)
	}
	if got := order.Once(b, a, b, eps, a); dumps(got) != dumps([]api.Re{b, a, eps}) {
		t.Error("P4.1: Once", got)
	}
	if i, ok := order.First(b, a, eps, a, eps); !ok || i != 2 {
		t.Error("P4.1: First of several such is at", i)
	}
	if i, ok := order.First(b, b); !ok || i != 0 {
		t.Error("P4.1: First of the same ones is at", i)
	}
	if i, ok := order.First(b, b, a); !ok || i != 2 {
		t.Error("P4.1: First at the end is at", i)
	}
}

func TestLargeOnes(t *testing.T) {
	low, high := tower(api.Star, 65535, class('a')), tower(api.Star, 65535, class('b'))
	if order.Two(low, high) != -1 || order.Two(high, low) != 1 || order.Two(low, copyOf(low)) != 0 {
		t.Error("P0.1, P4.1: Two of deep ones")
	}
	if got := order.Sort(high, low, high); len(got) != 3 || !rex.Same(got[0], low) || !rex.Same(got[2], high) {
		t.Error("P0.1, P4.1: Sort of deep ones")
	}
	if got := order.Once(high, low, high); len(got) != 2 || !rex.Same(got[0], high) || !rex.Same(got[1], low) {
		t.Error("P0.1, P4.1: Once of deep ones")
	}
	l := make([]api.Re, 1<<16)
	for i := range l {
		l[i] = api.Re{Kind: api.Class, Set: api.Set{uint64(i * 7 % 40000)}}
	}
	if got := order.Once(l...); len(got) != 40000 || got[39999].Set[0] != 39999*7%40000 {
		t.Error("P0.1, P4.1: Once of 65536 has", len(got))
	}
	if got := order.Sort(l...); len(got) != 1<<16 || !slices.IsSortedFunc(got, plainOrder) {
		t.Error("P0.1, P4.1: Sort of 65536")
	}
}

// scribble writes into every list of expressions, and into the room behind its end.
func scribble(l []api.Re) {
	for i := range l {
		scribble(l[i].Kids)
		l[i] = api.Re{Kind: 99}
	}
	room := l[len(l):cap(l)]
	for i := range room {
		room[i] = api.Re{Kind: 98}
	}
}

func makers() map[string]func(l ...api.Re) []api.Re {
	return map[string]func(l ...api.Re) []api.Re{"Sort": order.Sort, "Once": order.Once}
}

func TestAnswersAreNewMemory(t *testing.T) {
	l := someExpressions()
	before := dumps(l)
	for name, made := range makers() {
		answer, other := made(l...), made(l...)
		want := dumps(other)
		scribble(answer)
		if dumps(l) != before || dumps(other) != want || dumps(made(l...)) != want {
			t.Errorf("P0.3: what is written into what %s answers shows elsewhere", name)
		}
		mine := copiesOf(l)
		answer = made(mine...)
		scribble(mine)
		if dumps(answer) != want {
			t.Errorf("P0.3: %s keeps what it was handed", name)
		}
	}
}

func TestListsOfOneAnswerShareNothing(t *testing.T) {
	shared := node(api.Alt, class('a'), node(api.Star, class('b')))
	l := []api.Re{node(api.Seq, shared, shared), shared, shared, node(api.Star, shared)}
	for name, made := range makers() {
		whole, given := node(0, made(l...)...), node(0, l...)
		met := map[*api.Re]bool{}
		for _, p := range nodes(&given) {
			met[p] = true
		}
		for _, p := range nodes(&whole) {
			if met[p] {
				t.Errorf("P0.3: two lists of what %s answers, or one of them and what was handed in, share memory", name)
			}
			met[p] = true
		}
	}
}

func TestRoomBehindListsStays(t *testing.T) {
	room := []api.Re{class('b'), class('a'), {Kind: 77}, {Kind: 78}}
	bare := api.Re{Kind: api.Eps, Kids: room[:0]}
	x := api.Re{Kind: api.Seq, Kids: room[:2]}
	for _, made := range makers() {
		scribble(made(room[:2]...))
		scribble(made(bare, x, bare))
	}
	order.First(room[:2]...)
	order.Two(x, bare)
	if dumps(room) != dumps([]api.Re{class('b'), class('a'), {Kind: 77}, {Kind: 78}}) {
		t.Error("P0.3: a list that was handed in has changed", room)
	}
}

func TestAnswersStayTheSame(t *testing.T) {
	l := someExpressions()
	back := slices.Clone(l)
	slices.Reverse(back)
	sorted, once := dumps(order.Sort(l...)), dumps(order.Once(l...))
	first, _ := order.First(l...)
	order.Once(back...)
	if dumps(order.Sort(back...)) != sorted {
		t.Error("P0.5, P4.1: Sort hangs on how expressions stood")
	}
	again, _ := order.First(l...)
	if dumps(order.Sort(l...)) != sorted || dumps(order.Once(l...)) != once || first != again {
		t.Error("P0.5: the same are answered in two ways")
	}
}
