package rule

import (
	"slices"

	"imprimatur/words"
)

// reader reads the words of a line, one behind the other. It stops for good at the first that does not fit; what it answers from then on means nothing.
type reader struct {
	line   []words.Word
	next   int
	misfit bool
}

// peek returns the next word; at the end "", which no word is.
func (d *reader) peek() string {
	if d.next >= len(d.line) {
		return ""
	}
	return d.line[d.next].Text
}

// take goes past the next word if it fits, and stops if not.
func (d *reader) take(fits bool) {
	if !fits {
		d.misfit = true
	}
	if !d.misfit {
		d.next++
	}
}

// misfitColumn returns the column of the first word that does not fit, 1 past the last word if one is missing, 0 if all words have been read.
func (d *reader) misfitColumn() int {
	if d.next < len(d.line) {
		return d.line[d.next].Column
	}
	if !d.misfit {
		return 0
	}
	last := d.line[len(d.line)-1]
	return last.Column + len(last.Text)
}

func (d *reader) fixed(word string) {
	d.take(d.peek() == word)
}

func (d *reader) name() string {
	s := d.peek()
	d.take(words.Name(s))
	return s
}

func (d *reader) number() int {
	n, ok := words.Number(d.peek())
	d.take(ok)
	return n
}

// choice reads a word of a table and returns its kind.
func (d *reader) choice(table []string) int {
	kind := slices.Index(table, d.peek())
	d.take(kind > 0)
	return kind
}

// skip goes past a word if it is the next one, and reports whether it is.
func (d *reader) skip(word string) bool {
	if d.peek() != word {
		return false
	}
	d.take(true)
	return true
}

// option reads the name after a fixed word, if that is the next one.
func (d *reader) option(word string) string {
	if !d.skip(word) {
		return ""
	}
	return d.name()
}

func (d *reader) fromTo() (from, to string) {
	d.fixed("from")
	from = d.name()
	d.fixed("to")
	to = d.name()
	return from, to
}

// names reads all names to the end of the line, which are to be least ones or more.
func (d *reader) names(least int) (l []string) {
	for !d.misfit && (len(l) < least || d.next < len(d.line)) {
		l = append(l, d.name())
	}
	return l
}
