package def

import (
	"slices"

	"odyssey/api"
	"odyssey/name"
)

// reader reads a definition clause by clause.
type reader struct {
	clause int // the one that is looked at: the wrong one, if it is given up
	def    api.Def
	needs  [][]string // of each step the names of those that it needs
}

// read reads a text that is folded. Whatever is wrong below it gives up by a panic, which ends here.
func read(text string) (d api.Def, clause int, err api.Errno) {
	r := &reader{}
	defer func() {
		if recover() != nil {
			d, clause, err = api.Def{}, r.clause, api.ErrDefText
		}
	}()
	for i, piece := range clauses(text) {
		r.clause = i
		r.take(name.Words(piece))
	}
	r.findNeeds()
	return r.def, 0, api.OK
}

func giveUp() { panic(api.ErrDefText) }

// clauses cuts a text at each `;`. There is always one clause, if only an empty one.
func clauses(text string) []string {
	var pieces []string
	start := 0
	for i, r := range text {
		if r == clauseEnd {
			pieces = append(pieces, text[start:i])
			start = i + 1
		}
	}
	return append(pieces, text[start:])
}

func (r *reader) take(words []string) {
	if r.clause == 0 {
		r.takeHead(words)
		return
	}
	r.takeStep(words)
}

func (r *reader) takeHead(words []string) {
	if len(words) != 1 {
		giveUp()
	}
	r.def.Name = nameOf(words[0])
}

func (r *reader) takeStep(words []string) {
	if len(r.def.Steps) >= api.MaxSteps || len(words) < 3 {
		giveUp()
	}
	step := api.Step{Kind: kindOf(words[0]), Name: nameOf(words[1]), Part: partOf(words[2])}
	var needs []string
	for _, word := range words[3:] {
		sign, rest := cut(word)
		switch sign {
		case keySign:
			step.Keys = append(step.Keys, nameOf(rest))
		case needSign:
			needs = append(needs, nameOf(rest))
		default:
			giveUp()
		}
	}
	r.def.Steps = append(r.def.Steps, step)
	r.needs = append(r.needs, needs)
}

// findNeeds comes behind all clauses: a step may need one that stands further behind.
func (r *reader) findNeeds() {
	for i, names := range r.needs {
		r.clause = i + 1
		var numbers []int
		for _, s := range names {
			numbers = append(numbers, r.stepOf(s))
		}
		slices.Sort(numbers)
		r.def.Steps[i].Needs = slices.Compact(numbers)
	}
}

// stepOf tells the number of the first step of a name.
func (r *reader) stepOf(s string) int {
	number := slices.IndexFunc(r.def.Steps, func(step api.Step) bool { return step.Name == s })
	if number < 0 {
		giveUp()
	}
	return number
}

func nameOf(word string) string {
	if !name.Is(word) {
		giveUp()
	}
	return word
}

func kindOf(word string) int {
	for kind, s := range kindWords {
		if s == word {
			return kind
		}
	}
	giveUp()
	return 0
}

func partOf(word string) int {
	sign, rest := cut(word)
	digit, more := cut(rest)
	if sign != partSign || digit < '0' || digit >= '0'+api.Parts || more != "" {
		giveUp()
	}
	return int(digit - '0')
}

// cut parts the first rune of a word from what stands behind it. Of the empty text it is 0, which is no sign and no digit.
func cut(word string) (rune, string) {
	var first rune
	for i, r := range word {
		if i > 0 {
			return first, word[i:]
		}
		first = r
	}
	return first, ""
}
