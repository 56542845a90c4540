package pattern

import (
	"iter"
	"slices"

	"ribbon/api"
)

// notes has from where to where the pattern went, and then each group.
type notes [2 + 2*api.MaxGroups]int

func noted(from int) notes {
	var n notes
	for i := range n {
		n[i] = -1
	}
	n[0] = from
	return n
}

// thread is one way, as far as it has come.
//
// taken is how many of the turns that it is within have taken a byte. These are always the outermost ones, as what an inner turn takes its outer ones take too: so one number tells it for all of them.
type thread struct {
	at    int
	taken int
	notes notes
}

// finder follows all ways at once. Their order in the lists is that of the ways, those from earlier places ahead.
type finder struct {
	*Pattern
	text  string
	place int
	here  []thread
	ahead []thread // those that took the byte at this place
	left  []thread // ways not gone yet at this place, the next one last
	seen  []uint64 // a bit for each place, instruction and taken: were they met?
	found bool
	best  notes
}

// Find tells from where to where the pattern goes in the text, and then each group; or nil.
func (p *Pattern) Find(text string) []int {
	for place := range p.Places(text) {
		return slices.Clone(place)
	}
	return nil
}

// Places goes over all that is found in the text, one behind the other, and tells of each what Find tells of the first. Such a list is good until the next one comes.
func (p *Pattern) Places(text string) iter.Seq[[]int] {
	return func(yield func([]int) bool) {
		states := (len(text) + 1) * len(p.code) * (p.deepest + 1)
		f := finder{Pattern: p, text: text, seen: make([]uint64, states/64+1)}
		// An empty place just at the end of the one ahead is none, and is not found: that end was met.
		for from := 0; f.search(from); from = f.best[1] {
			if !yield(f.best[:2+2*p.groups]) {
				return
			}
		}
	}
}

// search looks for the first place from this one on, and tells whether there is one.
func (f *finder) search(from int) bool {
	f.found = false
	for f.place = from; f.place <= len(f.text); f.place++ {
		if !f.found {
			f.here = append(f.here, thread{at: f.begin, notes: noted(f.place)})
		}
		if len(f.here) == 0 {
			break
		}
		f.goOn()
	}
	return f.found
}

func (f *finder) goOn() {
	for i := range f.here {
		// What began behind the place of something found can not better it.
		if f.found && f.here[i].notes[0] > f.best[0] {
			break
		}
		f.follow(f.here[i])
	}
	f.here, f.ahead = f.ahead, f.here[:0]
}

func (f *finder) follow(t thread) {
	f.left = append(f.left[:0], t)
	for len(f.left) > 0 {
		last := len(f.left) - 1
		t = f.left[last]
		f.left = f.left[:last]
		for f.first(&t) && f.step(&t) {
		}
	}
}

// first tells whether no way ahead of this one came here: another one could go on only as that does.
//
// What was met when the places ahead were looked for counts, too, lest the text be gone over anew for each of them. Behind such a place's end it led nowhere, else the place would be longer; just at its end it leads to an empty place there at most, which is none.
func (f *finder) first(t *thread) bool {
	state := (f.place*len(f.code)+t.at)*(f.deepest+1) + t.taken
	word, bit := &f.seen[state/64], uint64(1)<<(state%64)
	if *word&bit != 0 {
		return false
	}
	*word |= bit
	return true
}

// step does one instruction; it tells whether the way goes on at this place.
func (f *finder) step(t *thread) bool {
	in := &f.code[t.at]
	switch in.kind {
	case kindByte:
		if f.place < len(f.text) && in.bytes.has(f.text[f.place]) {
			f.ahead = append(f.ahead, thread{in.next, in.depth, t.notes})
		}
		return false
	case kindBegin:
		if f.place != 0 {
			return false
		}
	case kindEnd:
		if f.place != len(f.text) {
			return false
		}
	case kindNote:
		t.notes[in.slot] = f.place
	case kindSplit:
		f.left = append(f.left, thread{in.other, t.taken, t.notes})
	case kindTurn:
		if t.taken <= in.depth {
			return false
		}
		t.taken = in.depth
	case kindFound:
		// A later place is a better one: who comes here did not begin behind the best.
		f.found, f.best = true, t.notes
		f.best[1] = f.place
		return false
	}
	t.at = in.next
	return true
}
