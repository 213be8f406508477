package admin

import (
	"strconv"
	"strings"

	"odyssey/api"
	"odyssey/name"
)

const maxDigits = 9

// read reads a line that is not too long. It tells false, if there is no such request.
func read(line string) (api.Request, bool) {
	words := name.Words(line)
	if len(words) == 0 {
		return api.Request{}, false
	}
	kind, rest := kindOf(words[0]), words[1:]
	switch kind {
	case api.RequestRegister:
		return api.Request{Kind: kind, Text: textOf(line)}, true
	case api.RequestStart:
		return readStart(rest)
	case api.RequestCancel, api.RequestQuery:
		id, is := numberOf(rest)
		return only(api.Request{Kind: kind, Id: id}, is)
	case api.RequestList:
		return only(api.Request{Kind: kind}, len(rest) == 0)
	}
	return api.Request{}, false
}

// readStart reads what stands behind the command: a key and a name, and a version or nothing.
func readStart(words []string) (api.Request, bool) {
	if len(words) < 2 || !name.Is(words[0]) || !name.Is(words[1]) {
		return api.Request{}, false
	}
	r := api.Request{Kind: api.RequestStart, Key: words[0], Name: words[1]}
	if len(words) == 2 {
		return r, true
	}
	version, is := numberOf(words[2:])
	r.Version = version
	return only(r, is)
}

// only answers a request just where it is one.
func only(r api.Request, is bool) (api.Request, bool) {
	if !is {
		return api.Request{}, false
	}
	return r, true
}

// kindOf tells the kind of a command: 0, if it is none's.
func kindOf(command string) int {
	for kind, word := range commands {
		if word == command {
			return kind
		}
	}
	return 0
}

// textOf is what stands in a line from its second word on up to the last one's end.
func textOf(line string) string {
	words, start, end := 0, 0, 0
	inside := false
	for i, r := range line {
		switch isBlank := blank(r); {
		case inside && isBlank:
			end, inside = i, false
		case !inside && !isBlank:
			words, inside = words+1, true
			if words == 2 {
				start = i
			}
		}
	}
	if words < 2 {
		return ""
	}
	if inside {
		end = len(line)
	}
	return line[start:end]
}

// blank asks name what a blank is: a line of blanks has no words.
func blank(r rune) bool {
	return len(name.Words(string(r))) == 0
}

// numberOf reads a number that stands as the one word there is.
func numberOf(words []string) (int, bool) {
	if len(words) != 1 || !isNumber(words[0]) {
		return 0, false
	}
	n, _ := strconv.Atoi(words[0]) // no error: so few digits are always a number
	return n, true
}

// isNumber leaves no number two ways to be written.
func isNumber(word string) bool {
	for _, r := range word {
		if r < '0' || r > '9' {
			return false
		}
	}
	return word == "0" || len(word) <= maxDigits && !strings.HasPrefix(word, "0")
}
