package description

import (
	"slices"

	"bombarde/api"
	"bombarde/lexer"
)

// reader reads lines of a description, with the names of the ranks and the divisions read so far. Its methods for lines begin behind their first word.
type reader struct {
	*lexer.Reader
	ranks, divisions []string
}

// failure is the error that ends reading, and the position of its token.
type failure struct {
	at lexer.Position
	e  api.Errno
}

// read returns what is read from a text, or the first error and its position.
func read[T any](s string, content func(r *reader) T) (x T, at lexer.Position, e api.Errno) {
	tokens, at, e := lexer.Scan(s)
	if e != api.OK {
		return x, at, e
	}
	defer func() {
		if recovered := recover(); recovered != nil {
			// Only fail panics here; anything else must not be taken for an error of the text.
			f := recovered.(failure)
			at, e = f.at, f.e
		}
	}()
	return content(&reader{Reader: lexer.Read(tokens)}), lexer.Position{}, api.OK
}

// fail ends reading with an error at the next token, or at the last one if the text ends there.
func (r *reader) fail(e api.Errno) {
	at := r.At()
	if at == (lexer.Position{}) {
		at = lexer.Position{Line: 1, Column: 1}
	}
	panic(failure{at: at, e: e})
}

// take takes the next token, which must be of a kind.
func (r *reader) take(kind int) lexer.Token {
	t, found := r.Take(kind)
	if !found {
		r.fail(api.ErrSyntax)
	}
	return t
}

// keyword takes the next token, which must be a certain word.
func (r *reader) keyword(word string) {
	if !r.Keyword(word) {
		r.fail(api.ErrSyntax)
	}
}

// word takes any word.
func (r *reader) word() string { return r.take(lexer.Word).Text }

// number takes a number.
func (r *reader) number() int { return r.take(lexer.Number).Number }

// feet takes the word feet, and feet.
func (r *reader) feet() api.Fraction {
	r.keyword("feet")
	return r.take(lexer.Feet).Feet
}

// line takes the end of a line.
func (r *reader) line() { r.take(lexer.Line) }

// end fails if there is another token.
func (r *reader) end() {
	if r.Left() > 0 {
		r.fail(api.ErrSyntax)
	}
}

// index takes a name, and returns the index of the first one of some names that is equal.
func (r *reader) index(names []string) int {
	t, found := r.Next()
	if !found || t.Kind != lexer.Word {
		r.fail(api.ErrSyntax)
	}
	i := slices.Index(names, t.Text)
	if i < 0 {
		r.fail(api.ErrUnknown)
	}
	r.Skip()
	return i
}

// organ reads all lines of a text.
func (r *reader) organ() api.Organ {
	r.keyword("organ")
	o := api.Organ{Name: r.word()}
	r.line()
	for r.Keyword("rank") {
		o.Ranks = append(o.Ranks, r.rank())
	}
	for r.Keyword("division") {
		o.Divisions = append(o.Divisions, r.division())
	}
	for r.Keyword("coupler") {
		o.Couplers = append(o.Couplers, r.coupler())
	}
	r.end()
	return o
}

// rank reads the line of a rank.
func (r *reader) rank() api.Rank {
	x := api.Rank{Name: r.word()}
	r.keyword("tone")
	x.Tone = r.word()
	x.Feet = r.feet()
	r.keyword("first")
	x.First = r.number()
	r.keyword("wind")
	for {
		wind, found := r.Take(lexer.Number)
		if !found {
			break
		}
		x.Wind = append(x.Wind, wind.Number)
	}
	r.line()
	r.ranks = append(r.ranks, x.Name)
	return x
}

// division reads the lines of a division.
func (r *reader) division() api.Division {
	d := api.Division{Name: r.word()}
	d.Pedal = r.Keyword("pedal")
	r.keyword("keys")
	d.Keys.Low, d.Keys.High = r.keys()
	for r.Keyword("stop") {
		d.Stops = append(d.Stops, r.stop())
	}
	r.divisions = append(r.divisions, d.Name)
	return d
}

// keys reads the end of a line with the first and the last one of some keys.
func (r *reader) keys() (from, to int) {
	from = r.number()
	to = r.number()
	r.line()
	return from, to
}

// stop reads the lines of a stop.
func (r *reader) stop() api.Stop {
	s := api.Stop{Name: r.word()}
	s.Feet = r.feet()
	r.line()
	for r.Keyword("keys") {
		s.Segments = append(s.Segments, r.segment())
	}
	return s
}

// segment reads the lines of a segment.
func (r *reader) segment() api.Segment {
	var x api.Segment
	x.From, x.To = r.keys()
	for r.Keyword("draw") {
		d := api.Draw{Rank: r.index(r.ranks)}
		d.Shift = r.number()
		r.line()
		x.Draws = append(x.Draws, d)
	}
	return x
}

// coupler reads the line of a coupler.
func (r *reader) coupler() api.Coupler {
	c := api.Coupler{Name: r.word()}
	r.keyword("from")
	c.From = r.index(r.divisions)
	r.keyword("to")
	c.To = r.index(r.divisions)
	r.keyword("shift")
	c.Shift = r.number()
	c.Through = r.Keyword("through")
	r.line()
	return c
}
