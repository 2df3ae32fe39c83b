// Package num is layer 1: see shared/doc/01-num.md.
package num

import (
	"slices"
	"strconv"
	"strings"

	"quill/api"
)

const (
	hexDigits = "0123456789abcdef"
	maxName   = 30
)

// Digits are the digits of each number, with a blank between one and the next; a number below 0, or above MaxNum, has none.
func Digits(l ...int) string {
	var b strings.Builder
	for i, n := range l {
		if i > 0 {
			b.WriteByte(' ')
		}
		if n >= 0 && n <= api.MaxNum {
			b.WriteString(strconv.Itoa(n))
		}
	}
	return b.String()
}

// Read is the number of a text: ErrForm, if it isn't a number's digits, ErrLimit, if the number is above MaxNum.
func Read(s string) (int, api.Errno) {
	if s == "" || len(s) > 1 && s[0] == '0' {
		return 0, api.ErrForm
	}
	n := 0
	for _, r := range s {
		if !isDigit(r) {
			return 0, api.ErrForm
		}
		// The number stops growing above MaxNum, so that no text is long enough to wrap it round.
		if n <= api.MaxNum {
			n = 10*n + int(r-'0')
		}
	}
	if n > api.MaxNum {
		return 0, api.ErrLimit
	}
	return n, api.OK
}

// Hex are the bytes' digits, two of each, one byte behind the other.
func Hex(l ...byte) string {
	var b strings.Builder
	for _, x := range l {
		b.WriteByte(hexDigits[x/16])
		b.WriteByte(hexDigits[x%16])
	}
	return b.String()
}

// ReadHex are the bytes of digits: ErrForm, if the text isn't bytes' digits.
func ReadHex(s string) ([]byte, api.Errno) {
	if len(s)%2 != 0 {
		return nil, api.ErrForm
	}
	out := make([]byte, 0, len(s)/2)
	var high byte
	// Every sign that is taken is one byte long, so an even place is a byte's higher digit.
	for i, r := range s {
		d, ok := hexValue(r)
		if !ok {
			return nil, api.ErrForm
		}
		if i%2 == 0 {
			high = d
		} else {
			out = append(out, 16*high+d)
		}
	}
	return out, api.OK
}

// Name tells whether all these are names.
func Name(l ...string) bool {
	return !slices.ContainsFunc(l, func(s string) bool { return !isName(s) })
}

func isName(s string) bool {
	if s == "" || len(s) > maxName {
		return false
	}
	for i, r := range s {
		if !isLetter(r) && (i == 0 || !isDigit(r) && r != '_') {
			return false
		}
	}
	return true
}

func isLetter(r rune) bool { return r >= 'a' && r <= 'z' }

func isDigit(r rune) bool { return r >= '0' && r <= '9' }

func hexValue(r rune) (byte, bool) {
	if isDigit(r) {
		return byte(r - '0'), true
	}
	if r >= 'a' && r <= 'f' {
		return byte(r-'a') + 10, true
	}
	return 0, false
}
