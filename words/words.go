// Package words: a line's words.
package words

import (
	"strings"

	"imprimatur/api"
)

const (
	blank     = ' '
	firstByte = ' '
	lastByte  = '~'
	maxDigits = 9
)

// Word is a word of a line, and the column where it begins (from 1 on).
type Word struct {
	Text   string
	Column int
}

// Split returns the words of a line before its comment; if a byte there may not stand in a line, only the column of the first such byte.
func Split(line string) (l []Word, bad int) {
	part, _, _ := strings.Cut(line, "#")
	if bad = badColumn(part); bad > 0 {
		return nil, bad
	}
	for at := 0; at < len(part); {
		end := wordEnd(part, at)
		if end > at {
			l = append(l, Word{part[at:end], at + 1})
		}
		at = end + 1
	}
	return l, 0
}

// badColumn returns the column of the first byte that may not stand in a line, 0 if there is none.
func badColumn(part string) int {
	for i := 0; i < len(part); i++ {
		if part[i] < firstByte || part[i] > lastByte {
			return i + 1
		}
	}
	return 0
}

// wordEnd returns the index of the first blank from at on, or the length if there is none.
func wordEnd(part string, at int) int {
	for at < len(part) && part[at] != blank {
		at++
	}
	return at
}

// Name reports whether s may be a name.
func Name(s string) bool {
	if len(s) < 1 || len(s) > api.MaxName {
		return false
	}
	for i := 0; i < len(s); i++ {
		if !nameByte(s[i]) {
			return false
		}
	}
	return true
}

func nameByte(b byte) bool {
	return b >= 'a' && b <= 'z' || digit(b) || b == '_' || b == '-'
}

func digit(b byte) bool {
	return b >= '0' && b <= '9'
}

// Number returns the number that s is written as, and whether it is one.
func Number(s string) (int, bool) {
	if len(s) < 1 || len(s) > maxDigits {
		return 0, false
	}
	// Each number is written in one way alone, so that no two lines are one rule.
	if s[0] == '0' && len(s) > 1 {
		return 0, false
	}
	n := 0
	for i := 0; i < len(s); i++ {
		if !digit(s[i]) {
			return 0, false
		}
		n = n*10 + int(s[i]-'0')
	}
	return n, true
}
