package survey

import (
	"iter"

	"bombarde/api"
	"bombarde/noteset"
	"bombarde/organ"
	"bombarde/stop"
)

// Gap is keys of a stop that draw less than they should.
type Gap struct {
	Division, Stop int
	Keys           api.Notes
}

// touch is a key of a stop, with what it draws.
type touch struct {
	at    Found
	key   int
	draws []api.Draw
	pipes []api.Pipe
}

// touches yields all stops of a right organ with each of their keys, in order.
func touches(o api.Organ) iter.Seq[touch] {
	return func(yield func(touch) bool) {
		for i, d := range o.Divisions {
			for k, s := range d.Stops {
				for key := d.Keys.Low; key <= d.Keys.High; key++ {
					at := Found{Division: i, Stop: k}
					if !yield(touch{at, key, stop.Draws(s, key), stop.Pipes(o.Ranks, s, key)}) {
						return
					}
				}
			}
		}
	}
}

// isGap reports whether a draw has no pipe. The draws of a right stop differ, and so do their pipes for one key.
func (t touch) isGap() bool { return len(t.pipes) < len(t.draws) }

// isMute reports whether no draw has a pipe.
func (t touch) isMute() bool { return len(t.pipes) == 0 }

// Gaps returns the keys of stops for which a pipe is missing.
func Gaps(o api.Organ) ([]Gap, api.Errno) { return gather(o, touch.isGap) }

// Mute returns the keys of stops that draw no pipe at all.
func Mute(o api.Organ) ([]Gap, api.Errno) { return gather(o, touch.isMute) }

// gather returns the keys of stops for which a function holds.
func gather(o api.Organ, holds func(touch) bool) ([]Gap, api.Errno) {
	if e := organ.Check(o); e != api.OK {
		return nil, e
	}
	var l []Gap
	for t := range touches(o) {
		if !holds(t) {
			continue
		}
		if len(l) == 0 || !l[len(l)-1].isOf(t.at) {
			l = append(l, Gap{Division: t.at.Division, Stop: t.at.Stop})
		}
		last := &l[len(l)-1]
		key, _ := noteset.Of([]int{t.key})
		last.Keys = noteset.Union(last.Keys, key)
	}
	return l, api.OK
}

// isOf reports whether keys are those of a certain stop.
func (g Gap) isOf(at Found) bool { return g.Division == at.Division && g.Stop == at.Stop }
