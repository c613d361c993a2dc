package script

import (
	"strconv"
	"strings"

	"copse/api"
	"copse/label"
	"copse/snap"
)

// The lines that there are, as places in the table.
const (
	putLine = iota
	sayLine
	cutLine
	wantLine
	dropLine
	budgetLine
	conesLine
	buildLine
	closureLine
	profileLine
	impactLine
	filesLine
)

// The kinds of words behind a line's first one, as letters in the table.
const (
	aPath     = 'P'
	aNumber   = 'N'
	anInt     = 'I'
	aLabel    = 'L'
	someBytes = 'B'
)

// row is a line's first word and the kinds of those behind it; many: of the
// last kind there may be any number, none too.
type row struct {
	word, kinds string
	many        bool
}

// table has a row for each line.
var table = [...]row{
	putLine:     {"put", "PNN", false},
	sayLine:     {"say", "PB", false},
	cutLine:     {"cut", "P", false},
	wantLine:    {"want", "L", false},
	dropLine:    {"drop", "L", false},
	budgetLine:  {"budget", "I", false},
	conesLine:   {"cones", "", false},
	buildLine:   {"build", "", false},
	closureLine: {"closure", "", false},
	profileLine: {"profile", "", false},
	impactLine:  {"impact", "P", true},
	filesLine:   {"files", "", false},
}

// The words that stand for what has no word of its own: the root as a path, and
// a text without bytes or a path that there is not.
const (
	root = "."
	none = "-"
)

const hexDigits = "0123456789abcdef"

// request is what a line asks for: its place in the table, and what the words
// behind the first say, by their kinds.
type request struct {
	line    int
	paths   []string
	numbers []int
	text    string
	label   api.Label
}

// wordsOf gives a line's words. Between two blanks of a run there is none.
func wordsOf(line string) []string {
	var words []string
	for w := range strings.SplitSeq(line, blank) {
		if w != "" {
			words = append(words, w)
		}
	}
	return words
}

// read tells what a line's words ask for, if they are a line of the table.
func read(words []string) (request, bool) {
	for line, r := range table {
		if r.word == words[0] {
			return readAs(line, r, words[1:])
		}
	}
	return request{}, false
}

// readAs reads the words behind the first as a row has them.
func readAs(line int, r row, words []string) (request, bool) {
	if !r.many && len(words) != len(r.kinds) {
		return request{}, false
	}
	q := request{line: line}
	for i, w := range words {
		if !q.take(r.kinds[min(i, len(r.kinds)-1)], w) {
			return request{}, false
		}
	}
	return q, true
}

// take reads a word of a kind. What may be kept is copied: a word is a piece of
// its line, which would be kept with it, however long it is.
func (q *request) take(kind byte, word string) bool {
	switch kind {
	case aPath:
		p, ok := pathOf(strings.Clone(word))
		q.paths = append(q.paths, p)
		return ok
	case aNumber:
		n, ok := intOf(word)
		q.numbers = append(q.numbers, n)
		return ok && n >= 0
	case anInt:
		n, ok := intOf(word)
		q.numbers = append(q.numbers, n)
		return ok
	case aLabel:
		l, e := label.Parse(strings.Clone(word))
		q.label = l
		return e == api.OK
	case someBytes:
		text, ok := bytesOf(word)
		q.text = text
		return ok
	}
	return false
}

// pathOf is the path that a word names, if it names one.
func pathOf(word string) (string, bool) {
	if word == root {
		return "", true
	}
	return word, snap.File(api.File{Path: word}) != api.ErrPath
}

// intOf is the number that a word is. A sign or zeros too many are taken at
// first: that shows when the number is written again.
func intOf(word string) (int, bool) {
	n, err := strconv.Atoi(word)
	return n, err == nil && strconv.Itoa(n) == word
}

// bytesOf are the bytes that a word spells, if it spells some or none.
func bytesOf(word string) (string, bool) {
	if word == none {
		return "", true
	}
	if len(word)%2 != 0 {
		return "", false
	}
	text := make([]byte, 0, len(word)/2)
	for ; word != ""; word = word[2:] {
		high, low := digitOf(word[0]), digitOf(word[1])
		if high < 0 || low < 0 {
			return "", false
		}
		text = append(text, byte(high<<4|low))
	}
	return string(text), true
}

// digitOf is what a digit counts; below 0, if the byte is none.
func digitOf(c byte) int {
	return strings.IndexByte(hexDigits, c)
}
