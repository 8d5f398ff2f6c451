package noteset

import (
	"strconv"
	"strings"

	"bombarde/api"
)

// octaveNotes is how many notes an octave has.
const octaveNotes = 12

// letters has the names of the notes of an octave.
var letters = [octaveNotes]string{"C", "C#", "D", "D#", "E", "F", "F#", "G", "G#", "A", "A#", "B"}

// Name returns the name of a note.
func Name(n int) (string, api.Errno) {
	if !valid(n) {
		return "", api.ErrRange
	}
	return letters[n%octaveNotes] + strconv.Itoa(n/octaveNotes-1), api.OK
}

// Note returns the note with a name.
func Note(s string) (int, api.Errno) {
	letter := s[:letterLength(s)]
	octave, is := octaveOf(s[len(letter):])
	for i, name := range letters {
		if n := octave*octaveNotes + i; is && name == letter && valid(n) {
			return n, api.OK
		}
	}
	return 0, api.ErrName
}

// letterLength returns how many bytes the letter of a name has, with its sharp.
func letterLength(s string) int {
	if len(s) > 1 && s[1] == '#' {
		return 2
	}
	return min(1, len(s))
}

// octaveOf returns the number of an octave, counted from 0, that is written from -1 on in its shortest form.
func octaveOf(s string) (octave int, is bool) {
	switch {
	case s == "-1":
		return 0, true
	case len(s) == 1 && '0' <= s[0] && s[0] <= '9':
		return int(s[0]-'0') + 1, true
	}
	return 0, false
}

// Text returns the names of the notes of a set in increasing order.
func Text(s api.Notes) string {
	names := make([]string, 0, Count(s))
	for n := range members(s) {
		name, _ := Name(n)
		names = append(names, name)
	}
	return strings.Join(names, " ")
}

// Parse returns the set of the names in a text.
func Parse(s string) (api.Notes, api.Errno) {
	if len(s) > api.MaxText {
		return api.Notes{}, api.ErrLong
	}
	if s == "" {
		return api.Notes{}, api.OK
	}
	var set api.Notes
	for _, word := range strings.Split(s, " ") {
		n, e := Note(word)
		switch {
		case e != api.OK:
			return api.Notes{}, e
		case Has(set, n):
			return api.Notes{}, api.ErrDuplicate
		}
		set = Union(set, single(n))
	}
	return set, api.OK
}
