// Package basic has the rules for numbers, strings and times that all chapters share (Z9 to Z11).
package basic

import (
	"strconv"
	"strings"

	"forecourt/api"
)

// IsKey says whether a string is a key.
func IsKey(s string) bool {
	if s == "" || len(s) > api.MaxName || !isSmall(s[0]) {
		return false
	}
	for i := range len(s) {
		if c := s[i]; !isSmall(c) && !isDigit(c) && c != '-' && c != '_' {
			return false
		}
	}
	return true
}

// IsPlate says whether a string has the form of a vehicle's plate.
func IsPlate(s string) bool {
	if len(s) < 2 || len(s) > 10 {
		return false
	}
	for i := range len(s) {
		if c := s[i]; !isDigit(c) && (c < 'A' || c > 'Z') {
			return false
		}
	}
	return true
}

// IsMoment says whether a number is a moment.
func IsMoment(at int) bool { return at >= 0 && at < api.End }

// IsWindow says whether a window of time is right.
func IsWindow(w api.Window) bool { return 0 <= w.From && w.From <= w.To && w.To <= api.End }

// IsTime says whether a window can be the time of a hire or of a booking: it has moments, and ends before End.
func IsTime(w api.Window) bool { return 0 <= w.From && w.From < w.To && w.To < api.End }

// Number reads a number of at most 9 digits.
func Number(s string) (int, bool) {
	digits, below := strings.CutPrefix(s, "-")
	n, ok := Natural(digits)
	if !below || !ok {
		return n, ok
	}
	// -0 is not a number.
	return -n, n != 0
}

// Natural reads a number of at most 9 digits that is not below 0.
func Natural(s string) (int, bool) {
	if s == "" || len(s) > 9 || s[0] == '0' && len(s) > 1 {
		return 0, false
	}
	n := 0
	for i := range len(s) {
		if !isDigit(s[i]) {
			return 0, false
		}
		n = n*10 + int(s[i]-'0')
	}
	return n, true
}

// Numbers reads a number from each word, into the field of its place. It says whether there are as many words as fields, and all of them are numbers.
func Numbers(words []string, fields ...*int) bool {
	if len(words) != len(fields) {
		return false
	}
	for i, field := range fields {
		n, ok := Number(words[i])
		if !ok {
			return false
		}
		*field = n
	}
	return true
}

// Decimals writes numbers.
func Decimals(numbers ...int) []string {
	words := make([]string, len(numbers))
	for i, n := range numbers {
		words[i] = strconv.Itoa(n)
	}
	return words
}

// Lines hands each line of a text to read, until this finds no form in one, or one is not ended. It returns the number of this line for ErrSyntax, otherwise 0.
func Lines(text string, read func(line string) bool) (int, api.Errno) {
	if len(text) > api.MaxText {
		return 0, api.ErrLarge
	}
	for number := 0; text != ""; number++ {
		line, rest, ended := strings.Cut(text, "\n")
		if !ended || !read(line) {
			return number, api.ErrSyntax
		}
		text = rest
	}
	return 0, api.OK
}

// List reads an element from the words of each line of a text, and checks all of them. The int is as that of Lines.
func List[T any](text string, read func(words []string) (T, bool), check func(l []T) api.Errno) ([]T, int, api.Errno) {
	var l []T
	line, e := Lines(text, func(line string) bool {
		x, ok := read(Words(line))
		if ok {
			l = append(l, x)
		}
		return ok
	})
	if e != api.OK {
		return nil, line, e
	}
	if e := check(l); e != api.OK {
		return nil, 0, e
	}
	return l, 0, api.OK
}

// Words returns the words of a line; none, if one of them is empty.
func Words(line string) []string {
	words := strings.Split(line, " ")
	for _, w := range words {
		if w == "" {
			return nil
		}
	}
	return words
}

// Writer writes lines of words.
type Writer struct{ text strings.Builder }

// Line writes a line.
func (w *Writer) Line(words ...string) {
	w.text.WriteString(strings.Join(words, " "))
	w.text.WriteByte('\n')
}

// Whole returns the text that was written, if it can be read again.
func (w *Writer) Whole() (string, api.Errno) {
	if w.text.Len() > api.MaxText {
		return "", api.ErrLarge
	}
	return w.text.String(), api.OK
}

func isSmall(c byte) bool { return c >= 'a' && c <= 'z' }

func isDigit(c byte) bool { return c >= '0' && c <= '9' }
