// Package words splits the text of a policy into its words.
package words

import (
	"strconv"
	"strings"
)

const maxOwn = 8 // letters of an own name

// Word is a word of a text, or its end.
type Word struct {
	Kind   Kind
	At     int    // the place of its first byte
	Number int64  // of a Number
	Name   string // of an Own
}

// Split gives the words of a text, with an End behind the last one; or false,
// and the first place at which no word begins.
func Split(text string) ([]Word, int, bool) {
	var list []Word
	at := pastBlanks(text, 0)
	for at < len(text) {
		word, size := first(text[at:])
		if size == 0 {
			return nil, at, false
		}
		word.At = at
		list = append(list, word)
		at = pastBlanks(text, at+size)
	}
	return append(list, Word{Kind: End, At: len(text)}), 0, true
}

func pastBlanks(text string, at int) int {
	for at < len(text) && (text[at] == ' ' || text[at] == '\n') {
		at++
	}
	return at
}

// first gives the word that a text begins with, and its size in bytes, which
// is 0 if there is none.
func first(text string) (Word, int) {
	switch {
	case isDigit(text[0]):
		return number(text[:run(text, isDigit)])
	case isLetter(text[0]):
		return name(text[:run(text, isLetter)])
	}
	return sign(text)
}

func isDigit(b byte) bool { return '0' <= b && b <= '9' }

func isLetter(b byte) bool { return 'a' <= b && b <= 'z' }

// run counts the bytes at the beginning of a text that belong together.
func run(text string, belongs func(byte) bool) int {
	size := 0
	for size < len(text) && belongs(text[size]) {
		size++
	}
	return size
}

func number(digits string) (Word, int) {
	n, err := strconv.ParseInt(digits, 10, 64)
	if err != nil {
		return Word{}, 0
	}
	return Word{Kind: Number, Number: n}, len(digits)
}

func name(letters string) (Word, int) {
	for kind := firstKeyword; kind <= lastKeyword; kind++ {
		if letters == kind.Spelling() {
			return Word{Kind: kind}, len(letters)
		}
	}
	if len(letters) > maxOwn {
		return Word{}, 0
	}
	return Word{Kind: Own, Name: letters}, len(letters)
}

func sign(text string) (Word, int) {
	for kind := firstSign; kind <= lastSign; kind++ {
		if strings.HasPrefix(text, kind.Spelling()) {
			return Word{Kind: kind}, len(kind.Spelling())
		}
	}
	return Word{}, 0
}
