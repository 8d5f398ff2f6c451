package lexer

import "bombarde/api"

// place is a position in a text, with the tokens in front of it.
type place struct {
	text   string
	offset int // of the next byte
	line   int
	begin  int // the offset at which the line begins
	tokens []Token
}

// position returns the line and the column of the next byte.
func (p *place) position() Position { return Position{Line: p.line, Column: p.offset - p.begin + 1} }

// step goes on behind the next byte that separates tokens, comment, or token; with an error it stays where it is.
func (p *place) step() api.Errno {
	rest := p.text[p.offset:]
	switch classOf(rest[0]) {
	case gap:
		p.offset++
	case comment:
		p.offset += run(rest, func(c byte) bool { return c != '\n' })
	case feed:
		return p.nextLine()
	default:
		t, length, e := token(rest)
		if e != api.OK {
			return e
		}
		return p.add(t, length)
	}
	return api.OK
}

// add adds a token that begins here, and goes on behind it.
func (p *place) add(t Token, length int) api.Errno {
	if len(p.tokens) == MaxTokens {
		return api.ErrLimit
	}
	at := p.position()
	t.Line, t.Column = at.Line, at.Column
	p.tokens = append(p.tokens, t)
	p.offset += length
	return api.OK
}

// endLine adds the token for the end of the line, if the line has other ones.
func (p *place) endLine() api.Errno {
	if last := len(p.tokens) - 1; last < 0 || p.tokens[last].Line < p.line {
		return api.OK
	}
	return p.add(Token{Kind: Line, Text: "\n"}, 0)
}

// nextLine ends the line at its line feed, and goes on behind it.
func (p *place) nextLine() api.Errno {
	if e := p.endLine(); e != api.OK {
		return e
	}
	p.offset++
	p.line++
	p.begin = p.offset
	return api.OK
}
