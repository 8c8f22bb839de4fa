package desk

import (
	"forecourt/api"
	"forecourt/basic"
)

// A form is what comes behind the first word of a line: a letter for each word.
const (
	anyWord    = 'w'
	numberWord = 'n'
)

// statement is what a line says: its first word, and those behind it, as far as they are numbers apart from the others.
type statement struct {
	at      int // when it is so
	verb    string
	names   []string
	numbers []int
}

// verbOf is the first word of a line, and what is behind it; empty, if the line does not have words with single blanks between.
func verbOf(line string) (string, []string) {
	words := basic.Words(line)
	if len(words) == 0 {
		return "", nil
	}
	return words[0], words[1:]
}

// statementOf reads the words behind a verb, and says whether they have its form.
func statementOf(at int, verb string, words []string, form string) (statement, bool) {
	if len(words) != len(form) {
		return statement{}, false
	}
	s := statement{at: at, verb: verb}
	for i, word := range words {
		if form[i] == anyWord {
			s.names = append(s.names, word)
			continue
		}
		n, ok := basic.Number(word)
		if !ok {
			return statement{}, false
		}
		s.numbers = append(s.numbers, n)
	}
	return s, true
}

// reading is what is read of a vehicle then.
func (s statement) reading(station string, meter, fuel int) api.Reading {
	return api.Reading{At: s.at, Station: station, Meter: meter, Fuel: fuel}
}
