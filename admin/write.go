package admin

import (
	"strconv"
	"strings"

	"odyssey/api"
)

// write writes a request's line, if it has one: else whatever its fields come to.
func write(r api.Request) string {
	words := headOf(r.Kind)
	switch r.Kind {
	case api.RequestRegister:
		if r.Text != "" {
			words = append(words, r.Text)
		}
	case api.RequestStart:
		words = append(words, r.Key, r.Name)
		if r.Version != 0 {
			words = append(words, number(r.Version))
		}
	case api.RequestCancel, api.RequestQuery:
		words = append(words, number(r.Id))
	}
	return join(words...)
}

// headOf is what a line or a reply of a kind begins with. What no kind begins with is no line.
func headOf(kind int) []string {
	if !isKind(kind) {
		return []string{"reply", number(kind)}
	}
	return []string{commands[kind]}
}

// Parts of an answer are these, and an error, an instance, rows, which api's types tell apart already.
type (
	idPart      int
	versionPart int
)

// partsOf are the parts of a reply, in their order.
func partsOf(r api.Reply) []any {
	if r.Code != api.OK {
		return []any{r.Code}
	}
	switch r.Kind {
	case api.RequestRegister:
		return []any{versionPart(r.Version)}
	case api.RequestStart:
		return []any{idPart(r.Id), versionPart(r.Version)}
	case api.RequestCancel:
		return []any{idPart(r.Id)}
	case api.RequestQuery:
		return []any{idPart(r.Id), r.Inst}
	case api.RequestList:
		return []any{r.Rows}
	}
	return nil
}

// tell are the words of a part.
func tell(part any) []string {
	switch p := part.(type) {
	case api.Errno:
		return []string{"error", number(int(p))}
	case idPart:
		return []string{"id", number(int(p))}
	case versionPart:
		return []string{"version", number(int(p))}
	case api.Inst:
		return tellInst(p)
	case []api.Row:
		return tellRows(p)
	}
	return nil
}

func tellInst(x api.Inst) []string {
	words := []string{"key", x.Key, "name", x.Name}
	words = append(words, tell(versionPart(x.Version))...)
	words = append(words, phaseWord(x.Phase), "cause", causeWord(x.Cause), "steps")
	for _, state := range x.Steps {
		words = append(words, stepWord(state))
	}
	words = append(words, "freed")
	for _, freed := range x.Freed {
		words = append(words, number(freed))
	}
	return words
}

func tellRows(rows []api.Row) []string {
	var words []string
	for _, row := range rows {
		words = append(words, number(row.Id)+":"+phaseWord(row.Phase))
	}
	return words
}

func phaseWord(phase int) string {
	return wordOf(phase, "", "forward", "sealed", "completing", "committed", "backward", "aborted")
}

func causeWord(cause int) string {
	return wordOf(cause, "none", "cancel", "late", "refused", "busy")
}

func stepWord(state int) string {
	return wordOf(state, "idle", "sent", "done", "no", "busy", "undone")
}

// wordOf is the word that stands at a number's place, from 0 on, among some words. An empty one is none.
func wordOf(n int, words ...string) string {
	if n < 0 || n >= len(words) || words[n] == "" {
		return "?" + number(n)
	}
	return words[n]
}

func number(n int) string { return strconv.Itoa(n) }

// join puts one blank between each two words, empty ones too.
func join(words ...string) string { return strings.Join(words, " ") }
