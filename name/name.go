// Package name is layer 1, names and words: see shared/doc/01-name.md.
package name

import (
	"unicode/utf8"

	"odyssey/api"
)

// Is tells whether a text is a name.
func Is(s string) bool {
	runes := 0
	for _, r := range s {
		if !smallLetter(r) && (runes == 0 || !digitOrHyphen(r)) {
			return false
		}
		runes++
		if runes > api.MaxName {
			return false
		}
	}
	return runes > 0
}

// Fold makes great letters small.
func Fold(s string) string {
	folded := make([]byte, 0, len(s))
	from := 0
	for i, r := range s {
		small := smallOf(r)
		if small == r {
			continue
		}
		// What lies between great letters goes over as bytes: as runes, those that begin none would be lost.
		folded = append(folded, s[from:i]...)
		folded = utf8.AppendRune(folded, small)
		from = i + utf8.RuneLen(r)
	}
	return string(append(folded, s[from:]...))
}

// Compare holds two texts against each other, rune by rune.
func Compare(a, b string) int {
	rest := b
	for _, r := range a {
		if rest == "" {
			return 1
		}
		other, size := utf8.DecodeRuneInString(rest)
		if r < other {
			return -1
		}
		if r > other {
			return 1
		}
		rest = rest[size:]
	}
	if rest != "" {
		return -1
	}
	return 0
}

// Owner tells the participant to which a key belongs.
func Owner(key string) int {
	left := 0
	for _, r := range key {
		// Divided at each rune, so that the sum stays small however long the key is.
		left = (left + int(r)) % api.Parts
	}
	return left
}

// Words are the words of a line.
func Words(line string) []string {
	var words []string
	start, inside := 0, false
	for i, r := range line {
		switch {
		case blank(r) && inside:
			words = append(words, line[start:i])
			inside = false
		case !blank(r) && !inside:
			start, inside = i, true
		}
	}
	if inside {
		words = append(words, line[start:])
	}
	return words
}

func smallLetter(r rune) bool {
	switch {
	case 'a' <= r && r <= 'z':
		return true
	case r == 'ä' || r == 'ö' || r == 'ü' || r == 'ß':
		return true
	}
	return 0x03b1 <= r && r <= 0x03c9
}

func digitOrHyphen(r rune) bool {
	return '0' <= r && r <= '9' || r == '-'
}

// greatLetter leaves out U+03A2: it stands among the great Greek letters, but no letter has that number.
func greatLetter(r rune) bool {
	switch {
	case 'A' <= r && r <= 'Z':
		return true
	case r == 'Ä' || r == 'Ö' || r == 'Ü':
		return true
	}
	return 0x0391 <= r && r <= 0x03a9 && r != 0x03a2
}

func smallOf(r rune) rune {
	if greatLetter(r) {
		return r + 32
	}
	return r
}

func blank(r rune) bool {
	return r == 9 || r == 32 || r == 160 || r == 8195
}
