package read_test

import (
	"fmt"
	"math"
	"math/rand"
	"regexp"
	"strings"
	"testing"

	"quill/api"
	"quill/read"
	"quill/rex"
	"quill/set"
	"quill/show"
)

var everyByte = api.Set{math.MaxUint64, math.MaxUint64, math.MaxUint64, math.MaxUint64}

func class(l ...byte) api.Re { return api.Re{Kind: api.Class, Set: set.Of(l...)} }

func node(kind uint8, kids ...api.Re) api.Re { return api.Re{Kind: kind, Kids: kids} }

// dump writes every node of an expression out, so that two dumps are alike just if the expressions are, node by node.
func dump(r api.Re) string {
	var b strings.Builder
	fmt.Fprintf(&b, "%d %x{", r.Kind, r.Set)
	for _, kid := range r.Kids {
		b.WriteString(dump(kid))
	}
	b.WriteString("}")
	return b.String()
}

func isZero(r api.Re) bool { return r.Kind == 0 && r.Set == api.Set{} && len(r.Kids) == 0 }

// nodes are all nodes of an expression, by their places.
func nodes(r *api.Re) []*api.Re {
	out := []*api.Re{r}
	for i := range r.Kids {
		out = append(out, nodes(&r.Kids[i])...)
	}
	return out
}

// tower is a leaf with nodes of one kid each around it.
func tower(height int, leaf api.Re) api.Re {
	for range height {
		leaf = node(api.Star, leaf)
	}
	return leaf
}

// comb is a chain of nodes with two kids, the second one (or the first one, if it is nested left) of them the chain's rest.
func comb(kind uint8, leaves int, left bool) api.Re {
	out := class('a')
	for range leaves - 1 {
		if left {
			out = node(kind, out, class('a'))
		} else {
			out = node(kind, class('a'), out)
		}
	}
	return out
}

// wantRead holds Read, All and Form to an expression.
func wantRead(t *testing.T, s string, want api.Re) {
	t.Helper()
	r, at, e := read.Read(s)
	if e != api.OK || at != 0 || dump(r) != dump(want) {
		t.Errorf("P6.1: Read of %.80q is %.200s at %d, error %d", s, dump(r), at, e)
	}
	l, at, e := read.All(s)
	if e != api.OK || at != 0 || len(l) != 1 || dump(l[0]) != dump(want) || !read.Form(s) {
		t.Errorf("P6.1: All or Form of %.80q", s)
	}
}

// wantError holds Read, All and Form to an error and its place.
func wantError(t *testing.T, s string, place int, want api.Errno) {
	t.Helper()
	r, at, e := read.Read(s)
	if e != want || at != place {
		t.Errorf("P6.1: Read of %.80q tells the error %d at %d, not %d at %d", s, e, at, want, place)
	}
	l, at, e2 := read.All("a", s)
	if !isZero(r) || len(l) != 0 || at != 1 || e2 != want || read.Form(s) {
		t.Errorf("P0.2, P6.1: Read, All or Form of %.80q, that isn't read: %v, %v at %d", s, r, l, at)
	}
}

// plain reads by the chapter's words alone: it cuts a text in every way where the words tell of two things. It keeps what it has found.
type plain struct{ found map[string]*api.Re }

func newPlain() *plain { return &plain{map[string]*api.Re{}} }

// by asks for a text once: thing is the word that it is asked for.
func (p *plain) by(thing, s string, find func() *api.Re) *api.Re {
	key := thing + s
	r, ok := p.found[key]
	if !ok {
		r = find()
		p.found[key] = r
	}
	return r
}

func (p *plain) expression(s string) *api.Re {
	return p.by("e", s, func() *api.Re {
		if r := p.row(s); r != nil {
			return r
		}
		for i := range len(s) {
			if s[i] != '|' {
				continue
			}
			if a, b := p.row(s[:i]), p.expression(s[i+1:]); a != nil && b != nil {
				r := node(5, *a, *b)
				return &r
			}
		}
		return nil
	})
}

func (p *plain) row(s string) *api.Re {
	return p.by("r", s, func() *api.Re {
		if r := p.part(s); r != nil {
			return r
		}
		for i := 1; i < len(s); i++ {
			if a, b := p.part(s[:i]), p.row(s[i:]); a != nil && b != nil {
				r := node(4, *a, *b)
				return &r
			}
		}
		return nil
	})
}

func (p *plain) part(s string) *api.Re {
	return p.by("p", s, func() *api.Re {
		if strings.HasSuffix(s, "*") {
			kid := p.part(s[:len(s)-1])
			if kid == nil {
				return nil
			}
			r := node(6, *kid)
			return &r
		}
		return p.atom(s)
	})
}

func (p *plain) atom(s string) *api.Re {
	if b, ok := plainSign(s); ok {
		r := class(b)
		return &r
	}
	switch {
	case s == ".":
		return &api.Re{Kind: 3, Set: everyByte}
	case s == "()":
		return &api.Re{Kind: 2}
	case s == "[]":
		return &api.Re{Kind: 1}
	case len(s) > 2 && s[0] == '[' && s[len(s)-1] == ']':
		return p.items(s[1 : len(s)-1])
	case len(s) > 2 && s[0] == '(' && s[len(s)-1] == ')':
		return p.expression(s[1 : len(s)-1])
	}
	return nil
}

// items are one item or more.
func (p *plain) items(s string) *api.Re {
	return p.by("i", s, func() *api.Re {
		if l, ok := plainItem(s); ok {
			r := class(l...)
			return &r
		}
		for i := 1; i < len(s); i++ {
			l, ok := plainItem(s[:i])
			if rest := p.items(s[i:]); ok && rest != nil {
				r := class(append(l, set.Bytes(rest.Set)...)...)
				return &r
			}
		}
		return nil
	})
}

func plainItem(s string) ([]byte, bool) {
	if b, ok := plainSign(s); ok {
		return []byte{b}, true
	}
	for i := range len(s) {
		first, ok1 := plainSign(s[:i])
		last, ok2 := plainSign(s[min(i+1, len(s)):])
		if s[i] == '-' && ok1 && ok2 {
			var l []byte
			for b := int(first); b <= int(last); b++ {
				l = append(l, byte(b))
			}
			return l, true
		}
	}
	return nil, false
}

func plainSign(s string) (byte, bool) {
	if len(s) == 1 {
		return s[0], s[0] > ' ' && s[0] < 0x7f && !strings.Contains(`\|*()[].-`, s)
	}
	if len(s) != 3 || s[0] != '\\' || strings.Trim(s[1:], "0123456789abcdef") != "" {
		return 0, false
	}
	digits := "0123456789abcdef"
	return byte(16*strings.IndexByte(digits, s[1]) + strings.IndexByte(digits, s[2])), true
}

// goesOn tells whether a text is the front of one that is of the form: ends are tried behind it.
func (p *plain) goesOn(s string) bool {
	for _, end := range []string{"", "a", "]", "a]", "0", "00", "0]", "00]"} {
		for brackets := range strings.Count(s, "(") + 1 {
			if p.expression(s+end+strings.Repeat(")", brackets)) != nil {
				return true
			}
		}
	}
	return false
}

var (
	openClass = regexp.MustCompile(`\[[^\]]*`)
	wholeItem = regexp.MustCompile(`(\\[0-9a-f]{2}|[^\\])(?:-(\\[0-9a-f]{2}|[^\\]))?`)
)

// falls is the place of the first item's last sign that is less than its first one, in the front of a text that is of the form.
func falls(front string) (int, bool) {
	for _, c := range openClass.FindAllStringIndex(front, -1) {
		items := front[c[0]+1 : c[1]]
		for _, m := range wholeItem.FindAllStringSubmatchIndex(items, -1) {
			if m[4] < 0 {
				continue
			}
			first, _ := plainSign(items[m[2]:m[3]])
			last, _ := plainSign(items[m[4]:m[5]])
			if last < first {
				return c[0] + 1 + m[4], true
			}
		}
	}
	return 0, false
}

// want holds a short text to what the chapter's words tell.
func (p *plain) want(t *testing.T, s string) {
	t.Helper()
	place := 0
	for place < len(s) && p.goesOn(s[:place+1]) {
		place++
	}
	p.wantAt(t, s, place)
}

// wantAt is told how long the longest front is that goes on.
func (p *plain) wantAt(t *testing.T, s string, place int) {
	t.Helper()
	if fall, ok := falls(s[:place]); ok {
		wantError(t, s, fall, api.ErrForm)
	} else if r := p.expression(s); r != nil {
		wantRead(t, s, *r)
	} else {
		wantError(t, s, place, api.ErrForm)
	}
}

// walk goes through all texts of some signs up to a length, and through what may not stand behind each front that goes on.
func (p *plain) walk(t *testing.T, signs, front string, length int) {
	if t.Failed() {
		return
	}
	p.wantAt(t, front, len(front))
	if length == 0 {
		return
	}
	for i := range len(signs) {
		s := front + signs[i:i+1]
		if p.goesOn(s) {
			p.walk(t, signs, s, length-1)
			continue
		}
		for _, behind := range []string{"", "a", "|", ")", "]", "*", "[b-a]", "\x00"} {
			p.wantAt(t, s+behind, len(front))
		}
	}
}

func TestNumbers(t *testing.T) {
	if api.MaxText != 65536 || api.MaxNodes != 2000 || api.ErrForm != 2 || api.ErrLong != 3 || api.ErrLimit != 4 {
		t.Error("T6: limits or errors have other numbers")
	}
}

func TestExamples(t *testing.T) {
	wantError(t, "a(b|", 4, api.ErrForm)
	a, b, c, d := class('a'), class('b'), class('c'), class('d')
	wantRead(t, "a(b|c)*d", rex.Then(a, rex.Many(rex.Or(b, c)), d))
	if r, _, _ := read.Read("a(b|c)*d"); show.Text(r) != "a(b|c)*d" {
		t.Error("P6.1, P6.2: the first example of the whole is", show.Text(r))
	}
}

func TestEachWordOfTheForm(t *testing.T) {
	a, b, c := class('a'), class('b'), class('c')
	empty, eps, all := api.Re{Kind: api.Empty}, api.Re{Kind: api.Eps}, api.Re{Kind: api.Class, Set: everyByte}
	for s, want := range map[string]api.Re{
		"a":            a,
		"a|b":          node(api.Alt, a, b),
		"a|b|c":        node(api.Alt, a, node(api.Alt, b, c)),
		"(a|b)|c":      node(api.Alt, node(api.Alt, a, b), c),
		"a|(b|c)":      node(api.Alt, a, node(api.Alt, b, c)),
		"ab":           node(api.Seq, a, b),
		"abc":          node(api.Seq, a, node(api.Seq, b, c)),
		"(ab)c":        node(api.Seq, node(api.Seq, a, b), c),
		"a(bc)":        node(api.Seq, a, node(api.Seq, b, c)),
		"ab|c":         node(api.Alt, node(api.Seq, a, b), c),
		"a|bc":         node(api.Alt, a, node(api.Seq, b, c)),
		"a(b|c)":       node(api.Seq, a, node(api.Alt, b, c)),
		"ab*":          node(api.Seq, a, node(api.Star, b)),
		"(ab)*":        node(api.Star, node(api.Seq, a, b)),
		"a*b":          node(api.Seq, node(api.Star, a), b),
		"a|b*":         node(api.Alt, a, node(api.Star, b)),
		"a***":         node(api.Star, node(api.Star, node(api.Star, a))),
		"((a*)*)*":     node(api.Star, node(api.Star, node(api.Star, a))),
		".":            all,
		".*":           node(api.Star, all),
		"..":           node(api.Seq, all, all),
		"[]":           empty,
		"[]*":          node(api.Star, empty),
		"[a]":          a,
		"[aa]":         a,
		"[ba]":         class('a', 'b'),
		"[a-c]":        class('a', 'b', 'c'),
		"[a-a]":        a,
		"[a-bb-c]":     class('a', 'b', 'c'),
		"[ca-b]":       class('a', 'b', 'c'),
		"[a-cb]":       class('a', 'b', 'c'),
		`[\00-\ff]`:    all,
		`[a-\62]`:      class('a', 'b'),
		`[\61-b]`:      class('a', 'b'),
		`[\5d\5b\2d]`:  class('[', ']', '-'),
		`[\2d-\2e]`:    class('-', '.'),
		"()":           eps,
		"(())":         eps,
		"()*":          node(api.Star, eps),
		"()()":         node(api.Seq, eps, eps),
		"()|()":        node(api.Alt, eps, eps),
		"([])":         empty,
		"(((a)))":      a,
		"((a)(b))":     node(api.Seq, a, b),
		"(a)|((b)|c)":  node(api.Alt, a, node(api.Alt, b, c)),
		`\7c`:          class('|'),
		`\61`:          a,
		`\ff`:          class(255),
		`\00*`:         node(api.Star, class(0)),
		`\61b`:         node(api.Seq, a, b),
		`\2a*`:         node(api.Star, class('*')),
		`a\28b\29`:     node(api.Seq, a, node(api.Seq, class('('), node(api.Seq, b, class(')')))),
		"(a|b)(b|c)":   node(api.Seq, node(api.Alt, a, b), node(api.Alt, b, c)),
		"(ab|b)*|[]()": node(api.Alt, node(api.Star, node(api.Alt, node(api.Seq, a, b), b)), node(api.Seq, empty, eps)),
	} {
		wantRead(t, s, want)
	}
}

func TestPlacesOfWhatMayNotStandThere(t *testing.T) {
	for s, place := range map[string]int{
		"": 0, " ": 0, "a ": 1, "\n": 0, "a\n": 1, "\x00": 0, "\x7f": 0, "\x80": 0, "é": 0, "aé": 1,
		"|": 0, "a|": 2, "a||": 2, "|a": 0, "a|b|": 4, "a||b": 2,
		"*": 0, "**": 0, "a|*": 2, "(*": 1, "(a|*)": 3,
		"(": 1, "((": 2, "(a": 2, "(()": 3, "(a|": 3, "(a|)": 3, "(|a)": 1, "(|": 1, "a(b|": 4,
		")": 0, "a)": 1, "())": 2, "(a))b": 3, "a|)": 2,
		"]": 0, "a]": 1, "[]]": 2, "a-": 1, "-": 0, "a-b": 1,
		"[": 1, "[a": 2, "[ab": 3, "[a-": 3, "[a-b": 4, "[a-]": 3, "[-]": 1, "[a--]": 3, "[a-b-c]": 4, "[a-b-": 4,
		"[[": 1, "[[]]": 1, "[.": 1, "[(]": 1, "[)]": 1, "[|]": 1, "[*]": 1, "[a*]": 2, "[ ]": 1, "[é]": 1, "[a-.]": 3, "[a-|": 3,
		`\`: 1, `\0`: 2, `\00\`: 4, `\0g`: 2, `\g0`: 1, `\A0`: 1, `\0A`: 2, `\F`: 1, `\\`: 1, `\ 0`: 1, `\-1`: 1, `\+1`: 1, `\x41`: 1, `\é`: 1, `\0é`: 2, `a\`: 2, `a\0`: 3, `(\)`: 2, `\0)`: 2, `\0|`: 2,
		`[\`: 2, `[\0`: 3, `[\]`: 2, `[\0]`: 3, `[\G0]`: 2, `[a-\]`: 4, `[a-\0]`: 5, `[a-\0g]`: 5, `[a-\`: 4,
		"[b-a]": 3, "[b-a": 3, "[b-a-": 3, "[b-a ": 3, "[ab-a]": 4, "[b-a][d-c]": 3, "[a-b][d-c]": 8, `[b-\61]`: 3, `[\62-a]`: 5, `[\62-\61]`: 5, `[\ff-\00]`: 5, "([b-a": 4, "[b-a]|": 3, "a|[b-a])": 5,
		`[b-\6]`: 5, `[b-\`: 4, `[b-\6`: 5, `[b-\g`: 4, "[b-": 3, " [b-a]": 0, "a|[b-.]": 5, "[b-a]*)": 3, "[a-b-a]": 4, "[a-cb-a]": 6,
	} {
		wantError(t, s, place, api.ErrForm)
	}
}

func TestEveryByteAsASign(t *testing.T) {
	for i := range 256 {
		b := byte(i)
		raw, told := string([]byte{b}), fmt.Sprintf("\\%02x", b)
		wantRead(t, told, class(b))
		wantRead(t, "["+told+"]", class(b))
		wantRead(t, "["+told+"-"+told+"]", class(b))
		wantRead(t, `[\00-`+told+"]", api.Re{Kind: api.Class, Set: set.Range(0, b)})
		wantRead(t, "["+told+`-\ff]`, api.Re{Kind: api.Class, Set: set.Range(b, 255)})
		if b > ' ' && b < 0x7f && strings.IndexByte(`\|*()[].-`, b) < 0 {
			wantRead(t, raw, class(b))
			wantRead(t, "["+raw+"]", class(b))
			wantRead(t, "["+told+"-"+raw+"]", class(b))
			wantRead(t, "["+raw+"-"+told+"]", class(b))
		} else if strings.IndexByte(`\(.[`, b) < 0 {
			wantError(t, raw, 0, api.ErrForm)
		}
		if b != 255 {
			wantError(t, fmt.Sprintf(`[\%02x-\%02x]`, b+1, b), 5, api.ErrForm)
		}
	}
}

func TestEveryPairOfBytesBehindABackslash(t *testing.T) {
	p := newPlain()
	for i := range 256 {
		for j := range 256 {
			s := string([]byte{'\\', byte(i), byte(j)})
			b, ok := plainSign(s)
			r, at, e := read.Read(s)
			if ok && (e != api.OK || r.Set != set.Of(b)) {
				t.Fatalf("P6.1: Read of %q is %v, error %d", s, r, e)
			}
			if !ok && e != api.ErrForm {
				t.Fatalf("P6.1: Read of %q tells the error %d at %d", s, e, at)
			}
		}
		p.want(t, string([]byte{'\\', byte(i)}))
		p.want(t, string([]byte{'\\', '0', byte(i)}))
		p.want(t, string([]byte{'\\', byte(i), '0'}))
		p.want(t, string([]byte{'[', 'a', '-', '\\', byte(i), '0', ']'}))
	}
}

func TestAllShortTexts(t *testing.T) {
	for signs, length := range map[string]int{
		"ab()|*[]-.\\0 G": 3,
		"a()|*":           6,
		"ab[]-":           6,
		`\6b[]-`:          7,
		"a(|)[]":          5,
	} {
		newPlain().walk(t, signs, "", length)
	}
}

// someText is of the form, but that an item's last sign may be less than its first one.
func someText(r *rand.Rand, size int) string {
	signs := []string{"a", "b", "z", "^", `\00`, `\7c`, `\ff`, "0"}
	sign := func() string { return signs[r.Intn(len(signs))] }
	if size <= 1 {
		switch r.Intn(8) {
		case 0:
			return "."
		case 1:
			return "()"
		case 2:
			return "[" + strings.Repeat(sign(), r.Intn(3)) + "]"
		case 3:
			return "[" + sign() + "-" + sign() + sign() + "]"
		}
		return sign()
	}
	part := 1 + r.Intn(size-1)
	switch r.Intn(5) {
	case 0:
		return someText(r, part) + "|" + someText(r, size-part)
	case 1:
		return "(" + someText(r, size-1) + ")"
	case 2:
		return "(" + someText(r, size-1) + ")*"
	}
	return someText(r, part) + someText(r, size-part)
}

// spoilt is a text with a byte taken out, put in or changed.
func spoilt(r *rand.Rand, s string) string {
	at := r.Intn(len(s))
	other := "()|*[]-.\\a0z \xff"
	b := other[r.Intn(len(other)):][:1]
	switch r.Intn(3) {
	case 0:
		return s[:at] + s[at+1:]
	case 1:
		return s[:at] + b + s[at:]
	}
	return s[:at] + b + s[at+1:]
}

func TestManyTextsAndSpoiltOnes(t *testing.T) {
	r := rand.New(rand.NewSource(6))
	read, errors := 0, 0
	for range 1200 {
		p, s := newPlain(), someText(r, 1+r.Intn(7))
		for range 4 {
			p.want(t, s)
			if p.expression(s) != nil {
				read++
			} else {
				errors++
			}
			if s != "" {
				s = spoilt(r, s)
			}
		}
	}
	if read < 1000 || errors < 1000 {
		t.Error("P6.1: too few texts of one sort", read, errors)
	}
}

func TestAnyBytes(t *testing.T) {
	r := rand.New(rand.NewSource(66))
	for range 3000 {
		l := make([]byte, r.Intn(6))
		r.Read(l)
		newPlain().want(t, string(l))
	}
}

func TestAtTheMostNodes(t *testing.T) {
	for _, c := range []struct {
		name, s string
		want    api.Re
	}{
		{"a row of 1999 nodes", strings.Repeat("a", 1000), comb(api.Seq, 1000, false)},
		{"a row of 2000 nodes", "(" + strings.Repeat("a", 1000) + ")*", node(api.Star, comb(api.Seq, 1000, false))},
		{"one of many, 1999 nodes", strings.Repeat("a|", 999) + "a", comb(api.Alt, 1000, false)},
		{"a row nested left, 1999 nodes", strings.Repeat("(", 999) + "a" + strings.Repeat("a)", 999), comb(api.Seq, 1000, true)},
		{"one of many nested left, 1999 nodes", strings.Repeat("(", 999) + "a" + strings.Repeat("|a)", 999), comb(api.Alt, 1000, true)},
		{"Stars, 2000 nodes", "a" + strings.Repeat("*", 1999), tower(1999, class('a'))},
		{"nested Stars, 2000 nodes", strings.Repeat("(", 1999) + "a" + strings.Repeat("*)", 1999), tower(1999, class('a'))},
		{"one node, in brackets", strings.Repeat("(", 32767) + "a" + strings.Repeat(")", 32767), class('a')},
		{"one node, Eps", strings.Repeat("(", 32768) + strings.Repeat(")", 32768), api.Re{Kind: api.Eps}},
		{"one node, a long class", "[" + strings.Repeat("ba", 32767) + "]", class('a', 'b')},
		{"one node, many runs", "[" + strings.Repeat(`\00-\ff`, 9362) + "]", api.Re{Kind: api.Class, Set: everyByte}},
	} {
		if len(c.s) > 65536 {
			t.Fatal("the test's own text is too long:", c.name)
		}
		r, at, e := read.Read(c.s)
		if e != api.OK || at != 0 || !rex.Same(r, c.want) || !read.Form(c.s) {
			t.Errorf("P6.1: Read of %s tells the error %d at %d", c.name, e, at)
		}
	}
}

func TestAboveTheMostNodes(t *testing.T) {
	for name, s := range map[string]string{
		"a row of 2001 nodes":           strings.Repeat("a", 1001),
		"a row of 2001 nodes, Stars":    strings.Repeat("a", 1000) + "**",
		"one of many, 2001 nodes":       strings.Repeat("a|", 1000) + "a",
		"a row nested left, 2001 nodes": strings.Repeat("(", 1000) + "a" + strings.Repeat("a)", 1000),
		"Stars, 2001 nodes":             "a" + strings.Repeat("*", 2000),
		"nested Stars, 2001 nodes":      strings.Repeat("(", 2000) + "a" + strings.Repeat("*)", 2000),
		"Eps, 2001 nodes":               strings.Repeat("()", 1001),
		"Empty, 2001 nodes":             strings.Repeat("[]", 1001),
		"points, 2001 nodes":            strings.Repeat(".", 1001),
		"the longest row":               strings.Repeat("a", 65536),
		"the most Stars":                "a" + strings.Repeat("*", 65535),
		"the longest one of many":       strings.Repeat("a|", 32767) + "aa",
		"the most brackets":             strings.Repeat("(", 16384) + strings.Repeat("a)*", 16384),
	} {
		r, at, e := read.Read(s)
		if e != api.ErrLimit || at != 0 || !isZero(r) || read.Form(s) {
			t.Errorf("P6.1: Read of %s tells the error %d at %d", name, e, at)
		}
	}
}

func TestWrongOnesWithTooManyNodes(t *testing.T) {
	many := strings.Repeat("a", 1001)
	for s, place := range map[string]int{
		many + ")":        1001,
		many + "|":        1002,
		"(" + many:        1002,
		many + " " + many: 1001,
		many + "[b-a]":    1004,
		many + "[b-a":     1004,
	} {
		wantError(t, s, place, api.ErrForm)
	}
	wantError(t, "a"+strings.Repeat("*", 65534)+"]", 65535, api.ErrForm)
	wantError(t, strings.Repeat("(", 65536), 65536, api.ErrForm)
	wantError(t, strings.Repeat("a", 65535)+"|", 65536, api.ErrForm)
	wantError(t, strings.Repeat("(", 32768)+"a"+strings.Repeat(")", 32767), 65536, api.ErrForm)
	wantError(t, "["+strings.Repeat("a", 65535), 65536, api.ErrForm)
	wantError(t, strings.Repeat("a", 65533)+`\0g`, 65535, api.ErrForm)
}

func TestTheLongestTexts(t *testing.T) {
	wantRead(t, "["+strings.Repeat("a", 65534)+"]", class('a'))
	wantError(t, "["+strings.Repeat("a", 65535)+"]", 0, api.ErrLong)
	for _, s := range []string{"a", "(", ")", "*", "\x00", "[", "[b-a]"} {
		wantError(t, strings.Repeat(s, 65537), 0, api.ErrLong)
	}
	wantError(t, strings.Repeat("\xff", 1<<22), 0, api.ErrLong)
}

func TestAll(t *testing.T) {
	for _, l := range [][]string{nil, {}} {
		if out, at, e := read.All(l...); len(out) != 0 || at != 0 || e != api.OK || !read.Form(l...) {
			t.Error("P0.4, P6.1: All or Form of none", out, at, e)
		}
	}
	good := []string{"a", "b*", "()", "a|b", "a"}
	out, at, e := read.All(good...)
	if e != api.OK || at != 0 || len(out) != len(good) || !read.Form(good...) {
		t.Fatal("P6.1: All of five", out, at, e)
	}
	for i, s := range good {
		if show.Text(out[i]) != s {
			t.Errorf("P6.1: All tells %q at %d", show.Text(out[i]), i)
		}
	}
}

func TestAllTellsTheFirstError(t *testing.T) {
	wrong := map[string]api.Errno{
		"aaa|":                     api.ErrForm,
		"":                         api.ErrForm,
		"[b-a]":                    api.ErrForm,
		strings.Repeat("a", 65537): api.ErrLong,
		strings.Repeat("a", 1001):  api.ErrLimit,
	}
	for s, want := range wrong {
		for other := range wrong {
			for place := range 4 {
				l := []string{"a", "b", "c", "d", "e"}
				l[place], l[4] = s, other
				out, at, e := read.All(l...)
				if len(out) != 0 || at != place || e != want || read.Form(l...) {
					t.Errorf("P0.2, P6.1: All with %.20q at %d tells the error %d at %d", s, place, e, at)
				}
			}
		}
	}
	most := strings.Repeat("a", 1000)
	if l, at, e := read.All(most, most, most); len(l) != 3 || at != 0 || e != api.OK {
		t.Error("P6.1: All counts the nodes of several together")
	}
}

// someSet is one of few bytes, of a run, of nearly all, or of all.
func someSet(r *rand.Rand) api.Set {
	b := byte(r.Intn(256))
	switch r.Intn(6) {
	case 0:
		return set.Of(b)
	case 1:
		return set.Of("\\|*()[].- "[r.Intn(10)])
	case 2:
		return set.Join(set.Range(b/2, b), set.Of('a'))
	case 3:
		return set.Less(everyByte, set.Of(b))
	case 4:
		return everyByte
	}
	return set.Of(b, byte(r.Intn(256)), byte(r.Intn(256)))
}

// someExpression is one that may be, of about so many nodes.
func someExpression(r *rand.Rand, size int) api.Re {
	if size <= 1 {
		switch r.Intn(6) {
		case 0:
			return api.Re{Kind: api.Empty}
		case 1:
			return api.Re{Kind: api.Eps}
		}
		return api.Re{Kind: api.Class, Set: someSet(r)}
	}
	if size == 2 || r.Intn(4) == 0 {
		return node(api.Star, someExpression(r, size-1))
	}
	first := 1 + r.Intn(size-2)
	return node(api.Seq+uint8(r.Intn(2)), someExpression(r, first), someExpression(r, size-1-first))
}

// small are all expressions of so many nodes, of leaves whose texts are unlike.
func small(size int) []api.Re {
	if size == 1 {
		return []api.Re{{Kind: api.Empty}, {Kind: api.Eps}, class('a'), class('|'), class('a', 'b'), {Kind: api.Class, Set: everyByte}}
	}
	var out []api.Re
	for _, kid := range small(size - 1) {
		out = append(out, node(api.Star, kid))
	}
	for first := 1; first < size-1; first++ {
		for _, a := range small(first) {
			for _, b := range small(size - 1 - first) {
				out = append(out, node(api.Seq, a, b), node(api.Alt, a, b))
			}
		}
	}
	return out
}

// wantBack holds Read to what is shown.
func wantBack(t *testing.T, want api.Re) {
	t.Helper()
	s := show.Text(want)
	if r, at, e := read.Read(s); e != api.OK || at != 0 || !rex.Same(r, want) {
		t.Fatalf("P6.2: %.200q is read as %.200s at %d, error %d", s, dump(r), at, e)
	}
}

func TestWhatIsShownIsReadAsItWas(t *testing.T) {
	for size := 1; size <= 7; size++ {
		for _, x := range small(size) {
			wantBack(t, x)
		}
	}
	r := rand.New(rand.NewSource(62))
	for range 3000 {
		wantBack(t, someExpression(r, 1+r.Intn(60)))
	}
	for range 5000 {
		wantBack(t, rex.Of(set.Join(someSet(r), someSet(r))))
	}
	for _, kind := range []uint8{api.Seq, api.Alt} {
		wantBack(t, comb(kind, 1000, false))
		wantBack(t, comb(kind, 1000, true))
	}
	wantBack(t, tower(1999, class('a')))
}

// ofLength is an expression that may be, whose text has so many bytes.
func ofLength(n int) api.Re {
	var bytes []byte
	for b := 128; b < 256; b += 4 {
		bytes = append(bytes, byte(b))
	}
	long := class(bytes...) // 32 bytes that no two of follow one another: 32 signs of three bytes, and two brackets
	var l []api.Re
	for range n / 98 {
		l = append(l, long)
	}
	for range n % 98 {
		l = append(l, class('a'))
	}
	return rex.Then(l...)
}

func TestWhatFitsIsReadAsItWas(t *testing.T) {
	for _, n := range []int{98, 65535, 65536} {
		x := ofLength(n)
		if len(show.Text(x)) != n || !show.Fits(x) {
			t.Fatal("the test's own expression isn't as long as it should be:", n)
		}
		wantBack(t, x)
	}
	wantError(t, show.Text(ofLength(65537)), 0, api.ErrLong)
}

func TestWhatIsReadIsReadAgain(t *testing.T) {
	r := rand.New(rand.NewSource(63))
	for range 3000 {
		x, _, e := read.Read(someText(r, 1+r.Intn(40)))
		if e == api.OK {
			wantBack(t, x)
		}
	}
}

func TestAnswersAreNewMemory(t *testing.T) {
	s := "((ab)*|[a-c](ab)*)*|()|ab"
	first, _, _ := read.Read(s)
	want := dump(first)
	for i := range nodes(&first) {
		x, _, _ := read.Read(s)
		all := nodes(&x)
		*all[i] = api.Re{Kind: 77}
		kinds := 0
		for _, n := range nodes(&x) {
			if n.Kind == 77 {
				kinds++
			}
		}
		if kinds != 1 {
			t.Errorf("P0.3: what is written into the node %d stands at %d nodes", i, kinds)
		}
		if again, _, _ := read.Read(s); dump(again) != want {
			t.Error("P0.3: what is written into an answer changes another one")
		}
	}
	l, _, _ := read.All(s, s)
	l[0].Kids[0].Kids[0] = api.Re{Kind: 77}
	_ = append(l[0].Kids[:1], api.Re{Kind: 78})
	if dump(l[1]) != want || dump(first) != want {
		t.Error("P0.3: two expressions of one answer share memory")
	}
}

func TestListsOfAnAnswerShareNoRoom(t *testing.T) {
	x, _, _ := read.Read("(abc)(a|b|c)*")
	want := dump(x)
	for _, n := range nodes(&x) {
		_ = append(n.Kids, api.Re{Kind: 77}, api.Re{Kind: 78})
	}
	if dump(x) != want {
		t.Error("P0.3: the room behind a list's end is another list's")
	}
}

func TestWhatIsHandedInStays(t *testing.T) {
	l := []string{"a", "b|c", "(", "room"}
	read.All(l[:2]...)
	read.Form(l[:3]...)
	read.All(l[:3]...)
	if strings.Join(l, " ") != "a b|c ( room" {
		t.Error("P0.3: what was handed in has changed", l)
	}
}

func TestAnswersStayTheSame(t *testing.T) {
	texts := []string{"a", "a(b|", "[b-a]", "(a|b)*", "", strings.Repeat("(", 65537), strings.Repeat("a", 1001), `\4`, "[]"}
	tell := func(s string) string {
		r, at, e := read.Read(s)
		return fmt.Sprint(dump(r), at, int(e), read.Form(s))
	}
	var first []string
	for _, s := range texts {
		first = append(first, tell(s))
	}
	for i := len(texts) - 1; i >= 0; i-- {
		if tell(texts[i]) != first[i] {
			t.Errorf("P0.5: Read of %.20q is answered in two ways", texts[i])
		}
	}
}
