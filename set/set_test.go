package set_test

import (
	"bytes"
	"fmt"
	"math"
	"math/rand"
	"slices"
	"strings"
	"testing"

	"quill/api"
	"quill/set"
)

// members are a set, told in the plainest way: the tests work out with them what the calls must answer.
type members [256]bool

func membersOf(s api.Set) members {
	var m members
	for b := range m {
		m[b] = s[b/64]&(1<<(b%64)) != 0
	}
	return m
}

func (m members) set() api.Set {
	var s api.Set
	for b, in := range m {
		if in {
			s[b/64] += 1 << (b % 64)
		}
	}
	return s
}

func (m members) bytes() []byte {
	var l []byte
	for b, in := range m {
		if in {
			l = append(l, byte(b))
		}
	}
	return l
}

var everyByte = api.Set{math.MaxUint64, math.MaxUint64, math.MaxUint64, math.MaxUint64}

// edgeSets are sets at the bounds of words, and of what a text tells apart.
func edgeSets() []api.Set {
	out := []api.Set{{}, everyByte}
	for b := range 256 {
		var one, two, three members
		one[b], two[b], three[b] = true, true, true
		two[(b+1)%256] = true
		three[(b+1)%256], three[(b+2)%256] = true, true
		out = append(out, one.set(), two.set(), three.set())
		for i, w := range one.set() {
			s := everyByte
			s[i] -= w
			if w != 0 {
				out = append(out, s)
			}
		}
	}
	for _, w := range []uint64{1, 1 << 63, 1<<63 - 1, math.MaxUint64, 0x5555555555555555} {
		for i := range 4 {
			var s api.Set
			s[i] = w
			out = append(out, s)
		}
	}
	return out
}

// someSets is a fixed row of sets: of few bytes, of many, of runs, and at the edges.
func someSets() []api.Set {
	r := rand.New(rand.NewSource(2))
	out := edgeSets()
	for range 400 {
		var few, runs members
		for range r.Intn(12) {
			few[r.Intn(256)] = true
		}
		for range r.Intn(8) {
			from := r.Intn(256)
			for b := from; b < min(256, from+r.Intn(9)); b++ {
				runs[b] = true
			}
		}
		out = append(out, few.set(), runs.set(), api.Set{r.Uint64(), r.Uint64(), r.Uint64(), r.Uint64()})
	}
	return out
}

func TestOf(t *testing.T) {
	for _, c := range []struct {
		l    []byte
		want api.Set
	}{
		{nil, api.Set{}},
		{[]byte{}, api.Set{}},
		{[]byte{0}, api.Set{1}},
		{[]byte{63}, api.Set{1 << 63}},
		{[]byte{64}, api.Set{0, 1}},
		{[]byte{127, 128}, api.Set{0, 1 << 63, 1}},
		{[]byte{191, 192}, api.Set{0, 0, 1 << 63, 1}},
		{[]byte{255}, api.Set{0, 0, 0, 1 << 63}},
		{[]byte{'a', 'a', 'a'}, api.Set{0, 1 << 33}},
		{[]byte{255, 'a', 0, 'a'}, api.Set{1, 1 << 33, 0, 1 << 63}},
	} {
		if s := set.Of(c.l...); s != c.want {
			t.Errorf("P2.1: Of(%v) is %x, not %x", c.l, s, c.want)
		}
	}
	for _, s := range someSets() {
		l := membersOf(s).bytes()
		back := slices.Clone(l)
		slices.Reverse(back)
		if set.Of(l...) != s || set.Of(back...) != s || set.Of(slices.Concat(l, back)...) != s {
			t.Errorf("P2.1: Of(%v)", l)
		}
	}
}

func TestRange(t *testing.T) {
	for low := range 256 {
		var m members
		for high := range 256 {
			if high >= low {
				m[high] = true
			}
			if s := set.Range(byte(low), byte(high)); s != m.set() {
				t.Fatalf("P2.1: Range(%d, %d) is %x, not %x", low, high, s, m.set())
			}
		}
	}
}

func TestHas(t *testing.T) {
	for _, s := range someSets() {
		for b, in := range membersOf(s) {
			if set.Has(s, byte(b)) != in {
				t.Fatalf("P2.1: Has(%x, %d) isn't %v", s, b, in)
			}
		}
	}
}

// wanted works out byte by byte which set has those bytes that are to be in it.
func wanted(in func(b int) bool) api.Set {
	var m members
	for b := range m {
		m[b] = in(b)
	}
	return m.set()
}

func TestJoinMeetLessOfTwo(t *testing.T) {
	l := someSets()
	for i, s := range l {
		for _, u := range []api.Set{l[(i*7+3)%len(l)], l[(i*31+11)%len(l)], s, {}, everyByte} {
			a, b := membersOf(s), membersOf(u)
			if got, want := set.Join(s, u), wanted(func(x int) bool { return a[x] || b[x] }); got != want {
				t.Fatalf("P2.1: Join(%x, %x) is %x, not %x", s, u, got, want)
			}
			if got, want := set.Meet(s, u), wanted(func(x int) bool { return a[x] && b[x] }); got != want {
				t.Fatalf("P2.1: Meet(%x, %x) is %x, not %x", s, u, got, want)
			}
			if got, want := set.Less(s, u), wanted(func(x int) bool { return a[x] && !b[x] }); got != want {
				t.Fatalf("P2.1: Less(%x, %x) is %x, not %x", s, u, got, want)
			}
		}
	}
}

func TestJoinMeetOfNoneAndOne(t *testing.T) {
	if set.Join() != (api.Set{}) || set.Join([]api.Set{}...) != (api.Set{}) {
		t.Error("P2.1, P0.4: Join of none")
	}
	if set.Meet() != everyByte || set.Meet([]api.Set{}...) != everyByte {
		t.Error("P2.1, P0.4: Meet of none")
	}
	for _, s := range someSets() {
		if set.Join(s) != s || set.Meet(s) != s {
			t.Errorf("P2.1: Join or Meet of %x alone", s)
		}
	}
}

func TestJoinMeetOfMany(t *testing.T) {
	r := rand.New(rand.NewSource(3))
	all := someSets()
	for range 300 {
		l := make([]api.Set, 3+r.Intn(6))
		for i := range l {
			l[i] = all[r.Intn(len(all))]
		}
		join := wanted(func(b int) bool {
			return slices.ContainsFunc(l, func(s api.Set) bool { return membersOf(s)[b] })
		})
		meet := wanted(func(b int) bool {
			return !slices.ContainsFunc(l, func(s api.Set) bool { return !membersOf(s)[b] })
		})
		for range 5 {
			if set.Join(l...) != join || set.Meet(l...) != meet {
				t.Fatalf("P2.1, P2.2: Join or Meet of %x", l)
			}
			r.Shuffle(len(l), func(i, j int) { l[i], l[j] = l[j], l[i] })
		}
	}
}

func TestJoinMeetInEveryOrder(t *testing.T) {
	a, b, c := set.Range('a', 'm'), set.Range('g', 'z'), set.Of(0, 'h', 'q', 255)
	join, meet := set.Join(a, b, c), set.Meet(a, b, c)
	if join != set.Join(set.Range('a', 'z'), set.Of(0, 255)) || meet != set.Of('h') {
		t.Error("P2.1: Join and Meet of three", set.Text(join), set.Text(meet))
	}
	for _, l := range [][]api.Set{{a, c, b}, {b, a, c}, {b, c, a}, {c, a, b}, {c, b, a}} {
		if set.Join(l...) != join || set.Meet(l...) != meet {
			t.Errorf("P2.2: Join or Meet of %x", l)
		}
	}
}

func TestCount(t *testing.T) {
	if set.Count() != 0 || set.Count(api.Set{}) != 0 || set.Count(everyByte) != 256 {
		t.Error("P2.1: Count of none, of the empty set, of all bytes")
	}
	sum := 0
	l := someSets()
	for _, s := range l {
		n := len(membersOf(s).bytes())
		sum += n
		if set.Count(s) != n || set.Count(s, s, s) != 3*n {
			t.Errorf("P2.1: Count of %x is %d, not %d", s, set.Count(s), n)
		}
	}
	if set.Count(l...) != sum {
		t.Error("P2.1: Count of many", set.Count(l...), sum)
	}
}

func TestBytes(t *testing.T) {
	for _, s := range someSets() {
		if got, want := set.Bytes(s), membersOf(s).bytes(); !bytes.Equal(got, want) {
			t.Fatalf("P2.1: Bytes(%x) is %v, not %v", s, got, want)
		}
	}
}

func TestSign(t *testing.T) {
	for i := range 256 {
		b := byte(i)
		want := string([]byte{b})
		if b <= ' ' || b >= 0x7f || bytes.IndexByte([]byte{'\\', '|', '*', '(', ')', '[', ']', '.', '-'}, b) >= 0 {
			want = fmt.Sprintf("\\%02x", b)
		}
		if s := set.Sign(b); s != want {
			t.Errorf("P2.1: Sign(%d) is %q, not %q", b, s, want)
		}
	}
}

func TestTextOfSomeSets(t *testing.T) {
	for _, c := range []struct {
		s    api.Set
		want string
	}{
		{api.Set{}, `[]`},
		{everyByte, `.`},
		{set.Range('a', 'z'), `[a-z]`},
		{set.Of(' '), `\20`},
		{set.Of(0), `\00`},
		{set.Of(255), `\ff`},
		{set.Of('.'), `\2e`},
		{set.Of('\\'), `\5c`},
		{set.Of('['), `\5b`},
		{set.Of('^'), `^`},
		{set.Of('a', 'b'), `[ab]`},
		{set.Of('a', 'c'), `[ac]`},
		{set.Of('a', 'b', 'c'), `[a-c]`},
		{set.Of('a', 'b', 'd', 'e'), `[abde]`},
		{set.Of('a', 'b', 'd', 'e', 'f'), `[abd-f]`},
		{set.Of('a', 'b', 'c', 'e', 'f'), `[a-cef]`},
		{set.Of('a', 'b', 'c', 'e', 'f', 'g'), `[a-ce-g]`},
		{set.Of(',', '-'), `[,\2d]`},
		{set.Of(',', '-', '.'), `[,-\2e]`},
		{set.Of('(', ')', '*'), `[\28-\2a]`},
		{set.Range(0, 254), `[\00-\fe]`},
		{set.Range(1, 255), `[\01-\ff]`},
		{set.Of(254, 255), `[\fe\ff]`},
		{set.Of(253, 254, 255), `[\fd-\ff]`},
		{set.Of(0, 1, 255), `[\00\01\ff]`},
		{set.Of(62, 63, 64, 65), `[>-A]`},
		{set.Less(everyByte, set.Of('a')), "[\\00-`b-\\ff]"},
		{set.Of(0x7e, 0x7f), `[~\7f]`},
	} {
		if got := set.Text(c.s); got != c.want {
			t.Errorf("P2.1: Text of %x is %q, not %q", c.s, got, c.want)
		}
	}
}

// readSign is the byte that a text begins with, as a sign, and the rest of the text.
func readSign(s string) (byte, string) {
	var b byte
	if s[0] != '\\' {
		return s[0], s[1:]
	}
	fmt.Sscanf(s[1:3], "%02x", &b)
	return b, s[3:]
}

// readText is the set of a text, and whether every run of three bytes or more, and no other one, is told by a -.
func readText(s string) (api.Set, bool) {
	if s == "." {
		return everyByte, true
	}
	if s[0] != '[' {
		b, rest := readSign(s)
		return set.Of(b), rest == ""
	}
	var m members
	ok, last, alone := true, -2, 0
	for s = s[1:]; s != "]"; {
		low, rest := readSign(s)
		high, isRun := low, rest[0] == '-'
		if isRun {
			high, rest = readSign(rest[1:])
		}
		for b := int(low); b <= int(high); b++ {
			m[b] = true
		}
		touches := int(low) == last+1
		if !touches {
			alone = 0
		}
		alone++
		ok = ok && int(low) > last && (!isRun || !touches && high-low >= 2) && (isRun || alone <= 2)
		last, s = int(high), rest
		if isRun {
			alone = 2
		}
	}
	return m.set(), ok && len(m.bytes()) != 1 && m.set() != everyByte
}

func TestTextTellsTheSet(t *testing.T) {
	texts := map[string]api.Set{}
	for _, s := range someSets() {
		text := set.Text(s)
		if back, ok := readText(text); back != s || !ok {
			t.Fatalf("P2.1: Text of %x is %q", s, text)
		}
		if other, met := texts[text]; met && other != s {
			t.Fatalf("P2.1: %x and %x have the text %q", s, other, text)
		}
		texts[text] = s
	}
}

func TestTextOfEveryRange(t *testing.T) {
	for low := range 256 {
		for high := low; high < 256; high++ {
			a, z := set.Sign(byte(low)), set.Sign(byte(high))
			want := "[" + a + "-" + z + "]"
			switch {
			case high-low == 255:
				want = "."
			case high == low:
				want = a
			case high == low+1:
				want = "[" + a + z + "]"
			}
			if got := set.Text(set.Range(byte(low), byte(high))); got != want {
				t.Fatalf("P2.1: Text of %d to %d is %q, not %q", low, high, got, want)
			}
		}
	}
}

func TestOrder(t *testing.T) {
	for _, c := range []struct {
		s, t api.Set
		want int
	}{
		{api.Set{}, api.Set{}, 0},
		{everyByte, everyByte, 0},
		{api.Set{}, api.Set{0, 0, 0, 1}, -1},
		{api.Set{1, 0, 0, 0}, api.Set{0, 9, 9, 9}, 1},
		{api.Set{1, 2, 3, 4}, api.Set{1, 2, 4, 0}, -1},
		{api.Set{1, 2, 3, 4}, api.Set{1, 2, 3, 3}, 1},
		{api.Set{1, 3, 0, 0}, api.Set{1, 2, 9, 9}, 1},
		{api.Set{1 << 63}, api.Set{1}, 1},
		{api.Set{math.MaxUint64}, api.Set{1<<63 - 1}, 1},
		{api.Set{0, 0, 0, 1 << 63}, api.Set{0, 0, 0, 1<<63 - 1}, 1},
	} {
		if set.Order(c.s, c.t) != c.want || set.Order(c.t, c.s) != -c.want {
			t.Errorf("P2.1: Order(%x, %x) is %d, back %d, not %d", c.s, c.t, set.Order(c.s, c.t), set.Order(c.t, c.s), c.want)
		}
	}
}

// asDigits writes a set's words so that texts are in order as the words are, as numbers.
func asDigits(s api.Set) string {
	return fmt.Sprintf("%016x %016x %016x %016x", s[0], s[1], s[2], s[3])
}

func TestOrderOfMany(t *testing.T) {
	l := someSets()
	for i, s := range l {
		for j := i; j < len(l); j += 5 {
			want := strings.Compare(asDigits(s), asDigits(l[j]))
			if set.Order(s, l[j]) != want || set.Order(l[j], s) != -want {
				t.Fatalf("P2.1: Order(%x, %x) isn't %d", s, l[j], want)
			}
		}
	}
}

func TestListsStayAsTheyAre(t *testing.T) {
	bs := []byte{3, 1, 3, 9}
	sets := []api.Set{{1}, {2, 3}, {4}, {5}}
	set.Of(bs[:3]...)
	set.Join(sets[:3]...)
	set.Meet(sets[:3]...)
	set.Count(sets[:3]...)
	set.Less(sets[1], sets[0])
	if !bytes.Equal(bs, []byte{3, 1, 3, 9}) || !slices.Equal(sets, []api.Set{{1}, {2, 3}, {4}, {5}}) {
		t.Error("P0.3: a list that was handed in has changed", bs, sets)
	}
}

func TestAnswersAreNewMemory(t *testing.T) {
	s := set.Of('a', 'b', 'c')
	first, second := set.Bytes(s), set.Bytes(s)
	first[0] = 9
	_ = append(first[:1], 9)
	if !bytes.Equal(second, []byte("abc")) || !bytes.Equal(set.Bytes(s), []byte("abc")) || s != set.Of('a', 'b', 'c') {
		t.Error("P0.3, P0.5: what is written into one answer shows in another", second)
	}
	all := set.Meet()
	all[0] = 0
	if set.Meet() != everyByte || set.Text(everyByte) != "." {
		t.Error("P0.3: what is written into the set of all bytes shows in another answer")
	}
}

func TestAnswersStayTheSame(t *testing.T) {
	l := someSets()
	for i, s := range l {
		u := l[len(l)-1-i]
		text, order, join := set.Text(s), set.Order(s, u), set.Join(s, u)
		set.Text(u)
		if set.Text(s) != text || set.Order(s, u) != order || set.Join(s, u) != join {
			t.Errorf("P0.5: %x is answered in two ways", s)
		}
	}
}
