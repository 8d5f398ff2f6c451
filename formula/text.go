package formula

import (
	"strconv"

	"bombarde/api"
)

// Text returns the text of a formula.
func Text(f Formula) (string, api.Errno) {
	if e := Check(f); e != api.OK {
		return "", e
	}
	t := text(f)
	if len(t) > api.MaxText {
		return "", api.ErrLong
	}
	return t, api.OK
}

// text returns the text of a right formula.
func text(f Formula) string { return string(write(nil, f)) }

// write appends the text of a formula to some bytes.
func write(bytes []byte, f Formula) []byte {
	switch f.Kind {
	case api.Var:
		return strconv.AppendInt(append(bytes, 'x'), int64(f.Arg), 10)
	case api.Not:
		return write(append(bytes, '!'), f.In[0])
	case api.And:
		return writeList(append(bytes, '&'), f.In)
	case api.Or:
		return writeList(append(bytes, '|'), f.In)
	case api.True:
		return append(bytes, '1')
	}
	return append(bytes, '0')
}

// writeList appends the texts of some formulas in parentheses.
func writeList(bytes []byte, l []Formula) []byte {
	bytes = append(bytes, '(')
	for i, f := range l {
		if i > 0 {
			bytes = append(bytes, ' ')
		}
		bytes = write(bytes, f)
	}
	return append(bytes, ')')
}

// Parse returns the formula of a text.
func Parse(s string) (Formula, api.Errno) {
	if len(s) > api.MaxText {
		return Formula{}, api.ErrLong
	}
	r := reader{rest: s}
	f, ok := r.formula()
	if !ok || r.rest != "" {
		return Formula{}, api.ErrSyntax
	}
	if e := Check(f); e != api.OK {
		return Formula{}, e
	}
	return f, api.OK
}

// reader has what is still to be read of a text.
type reader struct{ rest string }

// take reads a byte, if it is the next one.
func (r *reader) take(b byte) bool {
	if r.rest == "" || r.rest[0] != b {
		return false
	}
	r.rest = r.rest[1:]
	return true
}

// formula reads a formula, of any size; false if there is none.
func (r *reader) formula() (Formula, bool) {
	switch {
	case r.take('x'):
		n, ok := r.number()
		return Formula{Kind: api.Var, Arg: n}, ok
	case r.take('!'):
		in, ok := r.formula()
		return Formula{Kind: api.Not, In: []Formula{in}}, ok
	case r.take('&'):
		in, ok := r.list()
		return Formula{Kind: api.And, In: in}, ok
	case r.take('|'):
		in, ok := r.list()
		return Formula{Kind: api.Or, In: in}, ok
	case r.take('0'):
		return Formula{Kind: api.False}, true
	}
	return Formula{Kind: api.True}, r.take('1')
}

// number reads the number of a variable; it stands for all those that are too great as MaxVariables.
func (r *reader) number() (int, bool) {
	// A digit behind a leading zero is left over, where only a blank, a parenthesis or the end is right.
	if r.take('0') {
		return 0, true
	}
	n, digits := 0, 0
	for r.rest != "" && '0' <= r.rest[0] && r.rest[0] <= '9' {
		n = min(10*n+int(r.rest[0]-'0'), MaxVariables)
		r.rest = r.rest[1:]
		digits++
	}
	return n, digits > 0
}

// list reads formulas in parentheses, with one blank between each two.
func (r *reader) list() ([]Formula, bool) {
	if !r.take('(') {
		return nil, false
	}
	if r.take(')') {
		return nil, true
	}
	var l []Formula
	for {
		f, ok := r.formula()
		if !ok {
			return nil, false
		}
		l = append(l, f)
		if r.take(')') {
			return l, true
		}
		if !r.take(' ') {
			return nil, false
		}
	}
}
