package description

import (
	"strconv"
	"strings"

	"bombarde/api"
)

// printer writes lines of a description, with the names of some ranks, and counts their tokens.
type printer struct {
	ranks  []api.Rank
	text   strings.Builder
	tokens int
}

// line writes a line; its end is a token, too.
func (p *printer) line(words ...string) {
	p.tokens += len(words) + 1
	p.text.WriteString(strings.Join(words, " "))
	p.text.WriteByte('\n')
}

// organ writes all lines of a right organ.
func (p *printer) organ(o api.Organ) {
	p.line("organ", o.Name)
	for _, r := range o.Ranks {
		p.rank(r)
	}
	for _, d := range o.Divisions {
		p.division(d)
	}
	for _, c := range o.Couplers {
		words := []string{"coupler", c.Name, "from", o.Divisions[c.From].Name, "to", o.Divisions[c.To].Name, "shift", strconv.Itoa(c.Shift)}
		if c.Through {
			words = append(words, "through")
		}
		p.line(words...)
	}
}

// rank writes the line of a rank.
func (p *printer) rank(r api.Rank) {
	words := []string{"rank", r.Name, "tone", r.Tone, "feet", feetText(r.Feet), "first", strconv.Itoa(r.First), "wind"}
	for _, wind := range r.Wind {
		words = append(words, strconv.Itoa(wind))
	}
	p.line(words...)
}

// division writes the lines of a division.
func (p *printer) division(d api.Division) {
	words := []string{"division", d.Name}
	if d.Pedal {
		words = append(words, "pedal")
	}
	words = append(words, "keys", strconv.Itoa(d.Keys.Low), strconv.Itoa(d.Keys.High))
	p.line(words...)
	for _, s := range d.Stops {
		p.stop(s)
	}
}

// stop writes the lines of a stop.
func (p *printer) stop(s api.Stop) {
	p.line("stop", s.Name, "feet", feetText(s.Feet))
	for _, x := range s.Segments {
		p.line("keys", strconv.Itoa(x.From), strconv.Itoa(x.To))
		for _, d := range x.Draws {
			p.line("draw", p.ranks[d.Rank].Name, strconv.Itoa(d.Shift))
		}
	}
}
