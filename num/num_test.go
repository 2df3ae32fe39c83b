package num_test

import (
	"bytes"
	"encoding/hex"
	"math"
	"math/rand"
	"regexp"
	"slices"
	"strconv"
	"strings"
	"testing"

	"quill/api"
	"quill/num"
)

var (
	numberForm = regexp.MustCompile(`\A(0|[1-9][0-9]*)\z`)
	hexForm    = regexp.MustCompile(`\A([0-9a-f][0-9a-f])*\z`)
	nameForm   = regexp.MustCompile(`\A[a-z][a-z0-9_]{0,29}\z`)
)

// wrongTexts are no numbers, no bytes' digits and no names.
var wrongTexts = []string{
	"\x00", "\xff", "\x80\x80", "\xc3", "\xc3\x28", "\xed\xa0\x80", "\xf4\x90\x80\x80", "\xef\xbf\xbd",
	" ", "\n", "-", "+", "0 ", " 0", "0\n", "1\x00", "1\xff", "\xff1", "-1", "+1", "-0", "1.0", "1e3", "0x10", "1_000",
	"\u0661", "\uff11\uff12", "\u00e4", "a\u00e4", "\uff41", "\u0131", "\U0001d7ce",
	"A", "Z", "F", "aF", "FF", "0X", "a-b", "a b", "a.b", "`", "{", "/", ":", "@", "g\x00",
}

// someTexts is a fixed row of texts made of those signs that the forms are about, and of any bytes.
func someTexts() []string {
	r := rand.New(rand.NewSource(1))
	alphabets := []string{"0123456789", "0123456789abcdef", "01afg_z", "abz09_A/:`{ \xff"}
	var out []string
	for range 20000 {
		b := make([]byte, r.Intn(34))
		for i := range b {
			if a := r.Intn(5); a < len(alphabets) {
				b[i] = alphabets[a][r.Intn(len(alphabets[a]))]
			} else {
				b[i] = byte(r.Intn(256))
			}
		}
		out = append(out, string(b))
	}
	for _, a := range alphabets {
		for range 5000 {
			b := make([]byte, r.Intn(34))
			for i := range b {
				b[i] = a[r.Intn(len(a))]
			}
			out = append(out, string(b))
		}
	}
	return out
}

// shortTexts are all texts of at most two bytes.
func shortTexts() []string {
	out := []string{""}
	for i := range 256 {
		out = append(out, string([]byte{byte(i)}))
		for j := range 256 {
			out = append(out, string([]byte{byte(i), byte(j)}))
		}
	}
	return out
}

func allTexts() []string {
	return slices.Concat(shortTexts(), someTexts(), wrongTexts)
}

func TestNumbersOfTheGivenPackage(t *testing.T) {
	got := []api.Errno{api.OK, api.ErrArg, api.ErrForm, api.ErrLong, api.ErrLimit, api.ErrNone, api.ErrLL, api.ErrLex}
	for i, e := range got {
		if int(e) != i {
			t.Error("T6: error", i, "is", int(e))
		}
	}
	if api.MaxNum != 1000000 {
		t.Error("T6: MaxNum is", api.MaxNum)
	}
}

func TestDigits(t *testing.T) {
	for _, c := range []struct {
		l    []int
		want string
	}{
		{nil, ""},
		{[]int{}, ""},
		{[]int{0}, "0"},
		{[]int{7}, "7"},
		{[]int{10}, "10"},
		{[]int{999999}, "999999"},
		{[]int{1000000}, "1000000"},
		{[]int{1000001}, ""},
		{[]int{-1}, ""},
		{[]int{math.MinInt}, ""},
		{[]int{math.MaxInt}, ""},
		{[]int{0, 0}, "0 0"},
		{[]int{1, 20, 300}, "1 20 300"},
		{[]int{-1, -1}, " "},
		{[]int{-1, 5}, " 5"},
		{[]int{5, 1000001}, "5 "},
		{[]int{1, -1, 2}, "1  2"},
		{[]int{math.MinInt, 0, math.MaxInt}, " 0 "},
	} {
		if s := num.Digits(c.l...); s != c.want {
			t.Errorf("P1.1: Digits(%v) is %q, not %q", c.l, s, c.want)
		}
	}
}

func TestDigitsOfMany(t *testing.T) {
	l := make([]int, 5000)
	want := make([]string, len(l))
	for i := range l {
		l[i] = i * 200
		want[i] = strconv.Itoa(i * 200)
	}
	if num.Digits(l...) != strings.Join(want, " ") {
		t.Error("P1.1: Digits of many")
	}
}

func TestRead(t *testing.T) {
	for _, c := range []struct {
		s string
		n int
		e api.Errno
	}{
		{"0", 0, api.OK},
		{"9", 9, api.OK},
		{"80", 80, api.OK},
		{"999999", 999999, api.OK},
		{"1000000", 1000000, api.OK},
		{"1000001", 0, api.ErrLimit},
		{"10000000", 0, api.ErrLimit},
		{"2147483648", 0, api.ErrLimit},
		{"4294967297", 0, api.ErrLimit},
		{"9223372036854775808", 0, api.ErrLimit},
		{"18446744073709551617", 0, api.ErrLimit},
		{"1" + strings.Repeat("0", 100000), 0, api.ErrLimit},
		{"1" + strings.Repeat("0", 100000) + "x", 0, api.ErrForm},
		{"1000001x", 0, api.ErrForm},
		{"", 0, api.ErrForm},
		{"00", 0, api.ErrForm},
		{"01", 0, api.ErrForm},
		{"000000000", 0, api.ErrForm},
		{"01000001", 0, api.ErrForm},
		{"a", 0, api.ErrForm},
		{"1a", 0, api.ErrForm},
	} {
		if n, e := num.Read(c.s); n != c.n || e != c.e {
			t.Errorf("P1.1: Read(%.30q) is %d, %d, not %d, %d", c.s, n, e, c.n, c.e)
		}
	}
	for _, s := range wrongTexts {
		if n, e := num.Read(s); n != 0 || e != api.ErrForm {
			t.Errorf("P1.1: Read(%q) is %d, %d", s, n, e)
		}
	}
}

// wantedNumber works out by the library what Read must answer.
func wantedNumber(s string) (int, api.Errno) {
	if !numberForm.MatchString(s) {
		return 0, api.ErrForm
	}
	n, err := strconv.Atoi(s)
	if err != nil || n > api.MaxNum {
		return 0, api.ErrLimit
	}
	return n, api.OK
}

func TestReadOfAnyBytes(t *testing.T) {
	for _, s := range allTexts() {
		n, e := num.Read(s)
		if wn, we := wantedNumber(s); n != wn || e != we {
			t.Fatalf("P1.1, P0.1: Read(%q) is %d, %d, not %d, %d", s, n, e, wn, we)
		}
	}
}

func TestNumbersThereAndBack(t *testing.T) {
	for n := range api.MaxNum + 1 {
		if m, e := num.Read(num.Digits(n)); m != n || e != api.OK {
			t.Fatal("P1.2: number", n, "comes back as", m, e)
		}
	}
	for _, s := range allTexts() {
		if n, e := num.Read(s); e == api.OK && num.Digits(n) != s {
			t.Fatalf("P1.2: text %q comes back as %q", s, num.Digits(n))
		}
	}
}

func TestHex(t *testing.T) {
	for _, c := range []struct {
		l    []byte
		want string
	}{
		{nil, ""},
		{[]byte{}, ""},
		{[]byte{0}, "00"},
		{[]byte{9}, "09"},
		{[]byte{10}, "0a"},
		{[]byte{16}, "10"},
		{[]byte{255, 10}, "ff0a"},
		{[]byte{0, 255, 0x1a}, "00ff1a"},
	} {
		if s := num.Hex(c.l...); s != c.want {
			t.Errorf("P1.1: Hex(%v) is %q, not %q", c.l, s, c.want)
		}
	}
	for i := range 256 {
		if s := num.Hex(byte(i)); s != hex.EncodeToString([]byte{byte(i)}) {
			t.Error("P1.1: Hex of", i, "is", s)
		}
	}
}

func TestReadHex(t *testing.T) {
	for _, c := range []struct {
		s    string
		want []byte
	}{
		{"", nil},
		{"00", []byte{0}},
		{"0a", []byte{10}},
		{"a0", []byte{160}},
		{"ff0a", []byte{255, 10}},
		{"00ff1a", []byte{0, 255, 26}},
	} {
		if b, e := num.ReadHex(c.s); e != api.OK || !bytes.Equal(b, c.want) {
			t.Errorf("P1.1: ReadHex(%q) is %v, %d", c.s, b, e)
		}
	}
	for _, s := range slices.Concat(wrongTexts, []string{"0", "f", "00f", "0g", "g0", "FF", "fF", "0x", "00 ", "00 00", "00fx", "0000zz", "\u00e4", "0\u00e40", "00\xff\xff"}) {
		if b, e := num.ReadHex(s); e != api.ErrForm || len(b) != 0 {
			t.Errorf("P1.1, P0.2: ReadHex(%q) is %v, %d", s, b, e)
		}
	}
}

func TestReadHexOfAnyBytes(t *testing.T) {
	for _, s := range allTexts() {
		b, e := num.ReadHex(s)
		if !hexForm.MatchString(s) {
			if e != api.ErrForm || len(b) != 0 {
				t.Fatalf("P1.1, P0.1: ReadHex(%q) is %v, %d", s, b, e)
			}
			continue
		}
		if want, _ := hex.DecodeString(s); e != api.OK || !bytes.Equal(b, want) {
			t.Fatalf("P1.1: ReadHex(%q) is %v, %d", s, b, e)
		}
	}
}

func TestBytesThereAndBack(t *testing.T) {
	var all []byte
	for i := range 256 {
		all = append(all, byte(i))
		if b, e := num.ReadHex(num.Hex(byte(i))); e != api.OK || !bytes.Equal(b, []byte{byte(i)}) {
			t.Error("P1.2: byte", i, "comes back as", b, e)
		}
		if b, e := num.ReadHex(num.Hex(all...)); e != api.OK || !bytes.Equal(b, all) {
			t.Error("P1.2:", len(all), "bytes come back as", b, e)
		}
	}
	for _, s := range allTexts() {
		if b, e := num.ReadHex(s); e == api.OK && num.Hex(b...) != s {
			t.Fatalf("P1.2: text %q comes back as %q", s, num.Hex(b...))
		}
	}
}

func TestName(t *testing.T) {
	for _, c := range []struct {
		s    string
		want bool
	}{
		{"a", true},
		{"z", true},
		{"az_09", true},
		{"a_", true},
		{"a0", true},
		{"a" + strings.Repeat("_", 29), true},
		{"a" + strings.Repeat("_", 30), false},
		{strings.Repeat("z", 30), true},
		{strings.Repeat("z", 31), false},
		{strings.Repeat("z", 100000), false},
		{strings.Repeat("z", 29) + "Z", false},
		{strings.Repeat("z", 28) + "\u00e4", false},
		{"", false},
		{"0", false},
		{"0a", false},
		{"_", false},
		{"_a", false},
	} {
		if num.Name(c.s) != c.want {
			t.Errorf("P1.1: Name(%.40q) isn't %v", c.s, c.want)
		}
	}
	for _, s := range wrongTexts {
		if num.Name(s) {
			t.Errorf("P1.1: Name(%q)", s)
		}
	}
}

func TestNameOfMany(t *testing.T) {
	if !num.Name() || !num.Name([]string{}...) {
		t.Error("P1.1, P0.4: Name of none")
	}
	if !num.Name("a", "b", "a") {
		t.Error("P1.1: Name of three names")
	}
	for place := range 3 {
		l := []string{"a", "b", "c"}
		l[place] = "B"
		if num.Name(l...) {
			t.Error("P1.1: Name of", l)
		}
	}
	if num.Name("", "") {
		t.Error("P1.1: Name of two empty texts")
	}
}

func TestNameOfAnyBytes(t *testing.T) {
	for _, s := range allTexts() {
		if num.Name(s) != nameForm.MatchString(s) {
			t.Fatalf("P1.1, P0.1: Name(%q) is %v", s, num.Name(s))
		}
	}
}

func TestListsStayAsTheyAre(t *testing.T) {
	ints, bs, names := []int{3, -1, 2, 9}, []byte{3, 1, 2, 9}, []string{"b", "A", "a", "rest"}
	num.Digits(ints[:3]...)
	num.Hex(bs[:3]...)
	num.Name(names[:3]...)
	if !slices.Equal(ints, []int{3, -1, 2, 9}) || !slices.Equal(bs, []byte{3, 1, 2, 9}) || !slices.Equal(names, []string{"b", "A", "a", "rest"}) {
		t.Error("P0.3: a list that was handed in has changed", ints, bs, names)
	}
}

func TestAnswersAreNewMemory(t *testing.T) {
	first, _ := num.ReadHex("0102")
	second, _ := num.ReadHex("0102")
	first[0] = 9
	_ = append(first[:1], 9)
	if third, _ := num.ReadHex("0102"); !bytes.Equal(second, []byte{1, 2}) || !bytes.Equal(third, []byte{1, 2}) {
		t.Error("P0.3, P0.5: what is written into one answer shows in another", second, third)
	}
}

func TestAnswersStayTheSame(t *testing.T) {
	for _, s := range append(slices.Clone(wrongTexts), "0", "1000000", "1000001", "ff0a", "a_9") {
		n1, e1 := num.Read(s)
		b1, f1 := num.ReadHex(s)
		ok := num.Name(s)
		n2, e2 := num.Read(s)
		b2, f2 := num.ReadHex(s)
		if n1 != n2 || e1 != e2 || !bytes.Equal(b1, b2) || f1 != f2 || ok != num.Name(s) {
			t.Errorf("P0.5: %q is answered in two ways", s)
		}
	}
}
