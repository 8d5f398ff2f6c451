package description_test

import (
	"fmt"
	"math/rand"
	"slices"
	"strings"

	"bombarde/api"
	"bombarde/organ"
)

// f returns a fraction.
func f(num, den int) api.Fraction { return api.Fraction{Num: num, Den: den} }

// d returns a draw.
func d(rank, shift int) api.Draw { return api.Draw{Rank: rank, Shift: shift} }

// seg returns a segment.
func seg(from, to int, draws ...api.Draw) api.Segment {
	return api.Segment{From: from, To: to, Draws: draws}
}

// stopOf returns a stop.
func stopOf(name string, feet api.Fraction, segments ...api.Segment) api.Stop {
	return api.Stop{Name: name, Feet: feet, Segments: segments}
}

// chapterText is the description of the chapter.
const chapterText = "organ O\nrank P tone principal feet 8' first 36 wind 5 5 4\ndivision Great keys 36 38\nstop Principal feet 8'\nkeys 36 38\ndraw P 0\n"

// chapter returns the organ of the chapter.
func chapter() api.Organ {
	return api.Organ{
		Name:      "O",
		Ranks:     []api.Rank{{Name: "P", Tone: "principal", Feet: f(8, 1), First: 36, Wind: []int{5, 5, 4}}},
		Divisions: []api.Division{{Name: "Great", Keys: api.Compass{Low: 36, High: 38}, Stops: []api.Stop{stopOf("Principal", f(8, 1), seg(36, 38, d(0, 0)))}}},
	}
}

// exampleText is the description of an organ with each sort of line, some of whose names are words of the language.
const exampleText = `organ organ
rank rank tone wind feet 16' first -12 wind 0 1000000 7
rank first tone tone feet 2-2/3' first 256 wind 1
rank Q_1 tone wind feet 4/5' first 0 wind 3 3
division pedal pedal keys 0 127
stop keys feet 10-2/3'
keys 0 5
keys 7 7
draw Q_1 -127
draw rank 127
draw Q_1 0
keys 20 127
draw first -3
stop draw feet 1/2'
keys 127 127
division division keys 60 60
division through keys 36 96
stop keys feet 8'
keys 36 96
draw rank 0
coupler coupler from division to pedal shift -127 through
coupler through from through to through shift 12
`

// example returns the organ of exampleText.
func example() api.Organ {
	return api.Organ{
		Name:  "organ",
		Ranks: []api.Rank{{Name: "rank", Tone: "wind", Feet: f(16, 1), First: -12, Wind: []int{0, 1000000, 7}}, {Name: "first", Tone: "tone", Feet: f(8, 3), First: 256, Wind: []int{1}}, {Name: "Q_1", Tone: "wind", Feet: f(4, 5), Wind: []int{3, 3}}},
		Divisions: []api.Division{
			{Name: "pedal", Pedal: true, Keys: api.Compass{Low: 0, High: 127}, Stops: []api.Stop{stopOf("keys", f(32, 3), seg(0, 5), seg(7, 7, d(2, -127), d(0, 127), d(2, 0)), seg(20, 127, d(1, -3))), stopOf("draw", f(1, 2), seg(127, 127))}},
			{Name: "division", Keys: api.Compass{Low: 60, High: 60}},
			{Name: "through", Keys: api.Compass{Low: 36, High: 96}, Stops: []api.Stop{stopOf("keys", f(8, 1), seg(36, 96, d(0, 0)))}},
		},
		Couplers: []api.Coupler{{Name: "coupler", From: 1, To: 0, Shift: -127, Through: true}, {Name: "through", From: 2, To: 2, Shift: 12}},
	}
}

// names are names of things.
var names = []string{"organ", "rank", "tone", "feet", "first", "wind", "division", "pedal", "keys", "stop", "draw", "coupler", "from", "to", "shift", "through", "P", "Great_8", strings.Repeat("N", api.MaxName)}

// pitches are the feet of things.
var pitches = []api.Fraction{f(8, 1), f(16, 1), f(8, 3), f(4, 5), f(8, 7), f(32, 3), f(1, 2), f(64, 1), f(16, 9)}

// someOrgan returns a random organ that is right.
func someOrgan(random *rand.Rand) api.Organ {
	pick := func() []string {
		l := slices.Clone(names)
		random.Shuffle(len(l), func(i, k int) { l[i], l[k] = l[k], l[i] })
		return l
	}
	feet := func() api.Fraction { return pitches[random.Intn(len(pitches))] }
	o := api.Organ{Name: pick()[0]}
	for _, name := range pick()[:random.Intn(5)] {
		r := api.Rank{Name: name, Tone: pick()[0], Feet: feet(), First: random.Intn(513) - 256}
		for range 1 + random.Intn(4) {
			r.Wind = append(r.Wind, random.Intn(api.MaxWind+1))
		}
		o.Ranks = append(o.Ranks, r)
	}
	for _, name := range pick()[:1+random.Intn(4)] {
		x := api.Division{Name: name, Pedal: random.Intn(2) == 0, Keys: api.Compass{Low: random.Intn(64), High: 64 + random.Intn(64)}}
		for _, name := range pick()[:random.Intn(4)] {
			x.Stops = append(x.Stops, stopOf(name, feet(), someSegments(random, x.Keys, len(o.Ranks))...))
		}
		o.Divisions = append(o.Divisions, x)
	}
	for _, name := range pick()[:random.Intn(4)] {
		o.Couplers = append(o.Couplers, api.Coupler{Name: name, From: random.Intn(len(o.Divisions)), To: random.Intn(len(o.Divisions)), Shift: 1 + random.Intn(127), Through: random.Intn(2) == 0})
	}
	return o
}

// someSegments returns random segments for a compass and a number of ranks.
func someSegments(random *rand.Rand, c api.Compass, ranks int) []api.Segment {
	var l []api.Segment
	for from := c.Low; from <= c.High && len(l) < 4; {
		x := seg(from, from+random.Intn(c.High-from+1))
		for i := range random.Perm(ranks) {
			x.Draws = append(x.Draws, d(i, random.Intn(255)-127))
		}
		l = append(l, x)
		from = x.To + 1 + random.Intn(3)
	}
	return l
}

// someOrgans returns the examples, and random organs.
func someOrgans() []api.Organ {
	random := rand.New(rand.NewSource(20))
	l := []api.Organ{chapter(), example(), {Name: "A", Divisions: []api.Division{{Name: "B"}}}}
	for range 200 {
		o := someOrgan(random)
		if organ.Check(o) != api.OK {
			panic("an organ that is not right")
		}
		l = append(l, o)
	}
	return l
}

// printedFeet returns the text of a pitch.
func printedFeet(x api.Fraction) string {
	switch {
	case x.Den == 1:
		return fmt.Sprintf("%d'", x.Num)
	case x.Num < x.Den:
		return fmt.Sprintf("%d/%d'", x.Num, x.Den)
	}
	return fmt.Sprintf("%d-%d/%d'", x.Num/x.Den, x.Num%x.Den, x.Den)
}

// printedStop returns the lines of a stop.
func printedStop(ranks []api.Rank, s api.Stop) string {
	text := fmt.Sprintf("stop %s feet %s\n", s.Name, printedFeet(s.Feet))
	for _, x := range s.Segments {
		text += fmt.Sprintf("keys %d %d\n", x.From, x.To)
		for _, draw := range x.Draws {
			text += fmt.Sprintf("draw %s %d\n", ranks[draw.Rank].Name, draw.Shift)
		}
	}
	return text
}

// printed returns the description of an organ.
func printed(o api.Organ) string {
	var b strings.Builder
	fmt.Fprintf(&b, "organ %s\n", o.Name)
	for _, r := range o.Ranks {
		fmt.Fprintf(&b, "rank %s tone %s feet %s first %d wind %s\n", r.Name, r.Tone, printedFeet(r.Feet), r.First, strings.Trim(fmt.Sprint(r.Wind), "[]"))
	}
	for _, x := range o.Divisions {
		pedal := map[bool]string{true: " pedal"}[x.Pedal]
		fmt.Fprintf(&b, "division %s%s keys %d %d\n", x.Name, pedal, x.Keys.Low, x.Keys.High)
		for _, s := range x.Stops {
			b.WriteString(printedStop(o.Ranks, s))
		}
	}
	for _, c := range o.Couplers {
		through := map[bool]string{true: " through"}[c.Through]
		fmt.Fprintf(&b, "coupler %s from %s to %s shift %d%s\n", c.Name, o.Divisions[c.From].Name, o.Divisions[c.To].Name, c.Shift, through)
	}
	return b.String()
}
