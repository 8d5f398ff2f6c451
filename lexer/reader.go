package lexer

import "slices"

// Reader reads tokens from the left.
type Reader struct {
	tokens []Token
	taken  int
}

// Read returns a reader of tokens.
func Read(l []Token) *Reader { return &Reader{tokens: slices.Clone(l)} }

// Next returns the next token, if there is one.
func (r *Reader) Next() (Token, bool) {
	if r.Left() == 0 {
		return Token{}, false
	}
	return r.tokens[r.taken], true
}

// Skip takes the next token, if there is one.
func (r *Reader) Skip() bool {
	_, found := r.takeIf(func(Token) bool { return true })
	return found
}

// Take takes the next token, if it is of a kind.
func (r *Reader) Take(kind int) (Token, bool) {
	return r.takeIf(func(t Token) bool { return t.Kind == kind })
}

// Keyword takes the next token, if it is a certain word.
func (r *Reader) Keyword(word string) bool {
	_, found := r.takeIf(func(t Token) bool { return t.Kind == Word && t.Text == word })
	return found
}

// Sign takes the next token, if it is a certain mark.
func (r *Reader) Sign(mark string) bool {
	_, found := r.takeIf(func(t Token) bool { return t.Kind == Mark && t.Text == mark })
	return found
}

// takeIf takes the next token, if there is one that fits.
func (r *Reader) takeIf(fits func(t Token) bool) (Token, bool) {
	t, found := r.Next()
	if !found || !fits(t) {
		return Token{}, false
	}
	r.taken++
	return t, true
}

// At returns the position of the next token, or that of the last one if there is none.
func (r *Reader) At() Position {
	if r == nil || len(r.tokens) == 0 {
		return Position{}
	}
	t := r.tokens[min(r.taken, len(r.tokens)-1)]
	return Position{Line: t.Line, Column: t.Column}
}

// Left returns how many tokens are left.
func (r *Reader) Left() int {
	if r == nil {
		return 0
	}
	return len(r.tokens) - r.taken
}

// Rest takes the tokens up to the end of the line, and returns those before it.
func (r *Reader) Rest() []Token {
	var l []Token
	for {
		t, found := r.Next()
		if !found {
			return l
		}
		r.taken++
		if t.Kind == Line {
			return l
		}
		l = append(l, t)
	}
}
