package pattern

import (
	"math/rand"
	"slices"
	"strconv"
	"strings"
	"testing"

	"ribbon/api"
	"ribbon/fault"
)

// A part goes over its ways just as the document says it, one by one, and going back: slow, and apart from the program.
type part interface {
	source() string
	weight() int
	ways(g *going, at int, n notes, then func(at int, n notes))
}

// going counts steps, as some patterns have too many ways to go over.
type going struct {
	text  string
	steps int
}

const enough = 3000

type (
	letter string
	mark   string
	many   struct {
		of   part
		sign string
	}
	bounded struct {
		of          part
		least, most int
	}
	side  []part
	forks []part
	paren struct {
		number int
		of     part
	}
)

func (l letter) source() string { return string(l) }
func (l letter) weight() int    { return 1 }
func (l letter) ways(g *going, at int, n notes, then func(int, notes)) {
	if at < len(g.text) && (l == "." || string(l) == g.text[at:at+1]) {
		then(at+1, n)
	}
}

func (m mark) source() string { return string(m) }
func (m mark) weight() int    { return 1 }
func (m mark) ways(g *going, at int, n notes, then func(int, notes)) {
	if m == "^" && at == 0 || m == "$" && at == len(g.text) {
		then(at, n)
	}
}

func (m many) source() string { return m.of.source() + m.sign }
func (m many) weight() int {
	if m.sign == "+" {
		return 2*m.of.weight() + 1
	}
	return m.of.weight() + 1
}
func (m many) ways(g *going, at int, n notes, then func(int, notes)) {
	if g.steps++; g.steps > enough {
		return
	}
	switch m.sign {
	case "?":
		m.of.ways(g, at, n, then)
		then(at, n)
	case "*":
		m.of.ways(g, at, n, func(to int, n notes) {
			if to > at {
				m.ways(g, to, n, then)
			}
		})
		then(at, n)
	case "+":
		side{m.of, many{m.of, "*"}}.ways(g, at, n, then)
	}
}

func (b bounded) source() string {
	least, most := strconv.Itoa(b.least), strconv.Itoa(b.most)
	switch b.most {
	case b.least:
		return b.of.source() + "{" + least + "}"
	case endless:
		return b.of.source() + "{" + least + ",}"
	}
	return b.of.source() + "{" + least + "," + most + "}"
}
func (b bounded) weight() int {
	if b.most == endless {
		return (b.least+1)*b.of.weight() + 1
	}
	return b.most*b.of.weight() + b.most - b.least
}
func (b bounded) ways(g *going, at int, n notes, then func(int, notes)) {
	var all side
	for range b.least {
		all = append(all, b.of)
	}
	if b.most == endless {
		all = append(all, many{b.of, "*"})
	} else if b.most > b.least {
		var more part = many{b.of, "?"}
		for range b.most - b.least - 1 {
			more = many{side{b.of, more}, "?"}
		}
		all = append(all, more)
	}
	all.ways(g, at, n, then)
}

func (s side) source() string {
	var all strings.Builder
	for _, p := range s {
		all.WriteString(p.source())
	}
	return all.String()
}
func (s side) weight() int {
	sum := 0
	for _, p := range s {
		sum += p.weight()
	}
	return sum
}
func (s side) ways(g *going, at int, n notes, then func(int, notes)) {
	if g.steps++; g.steps > enough {
		return
	}
	if len(s) == 0 {
		then(at, n)
		return
	}
	s[0].ways(g, at, n, func(to int, n notes) { s[1:].ways(g, to, n, then) })
}

func (f forks) source() string {
	var all []string
	for _, p := range f {
		all = append(all, p.source())
	}
	return strings.Join(all, "|")
}
func (f forks) weight() int {
	return side(f).weight() + len(f) - 1
}
func (f forks) ways(g *going, at int, n notes, then func(int, notes)) {
	for _, p := range f {
		p.ways(g, at, n, then)
	}
}

func (p paren) source() string { return "(" + p.of.source() + ")" }
func (p paren) weight() int    { return p.of.weight() + 2 }
func (p paren) ways(g *going, at int, n notes, then func(int, notes)) {
	p.of.ways(g, at, n, func(to int, n notes) {
		n[2*p.number], n[2*p.number+1] = at, to
		then(to, n)
	})
}

// maker makes parts by chance, always the same ones.
type maker struct {
	*rand.Rand
	groups int
}

func (m *maker) forks(deep int) part {
	var all forks
	for range 1 + max(0, m.Intn(5)-2) {
		var pieces side
		for range m.Intn(4) {
			pieces = append(pieces, m.piece(deep))
		}
		all = append(all, pieces)
	}
	return all
}

func (m *maker) piece(deep int) part {
	if m.Intn(15) == 0 {
		return mark([]string{"^", "$"}[m.Intn(2)])
	}
	var atom part = letter([]string{"a", "b", "."}[m.Intn(3)])
	if deep > 0 && m.groups < api.MaxGroups && m.Intn(2) == 0 {
		m.groups++
		number := m.groups
		atom = paren{number, m.forks(deep - 1)}
	}
	switch m.Intn(8) {
	case 0, 1:
		return many{atom, "*"}
	case 2:
		return many{atom, "+"}
	case 3:
		return many{atom, "?"}
	case 4:
		least := m.Intn(4)
		return bounded{atom, least, []int{endless, least, least + 1, least + 2}[m.Intn(4)]}
	}
	return atom
}

func (m *maker) text() string {
	var all strings.Builder
	for range m.Intn(7) {
		all.WriteByte("ab"[m.Intn(2)])
	}
	return all.String()
}

// find tells what the document says of Match, from a place on; ok is false if there are too many ways to say.
func find(p part, groups int, text string, from int) (list []int, ok bool) {
	for ; from <= len(text); from++ {
		g := going{text: text}
		best := noted(from)
		p.ways(&g, from, noted(from), func(to int, n notes) {
			if to > best[1] {
				best = n
				best[1] = to
			}
		})
		if g.steps > enough {
			return nil, false
		}
		if best[1] >= 0 {
			return best[:2+2*groups], true
		}
	}
	return nil, true
}

// findAll tells what the document says of places, one behind the other.
func findAll(p part, groups int, text string) (all [][]int, ok bool) {
	for from, end := 0, -1; ; {
		list, ok := find(p, groups, text, from)
		if !ok || list == nil {
			return all, ok
		}
		if list[0] == end && list[1] == end {
			from = end + 1
			continue
		}
		all = append(all, slices.Clone(list))
		from, end = list[1], list[1]
	}
}

// P8: all places are what the ways, gone over one by one from the end of the one ahead, tell.
func TestPlacesOneByOne(t *testing.T) {
	m := maker{Rand: rand.New(rand.NewSource(8))}
	asked, places := 0, 0
	for range 20000 {
		m.groups = 0
		p := m.forks(3)
		source := p.source()
		if len(source) > api.MaxPattern || p.weight() > api.MaxSize {
			continue
		}
		read := Read(source, 0)
		for range 4 {
			text := m.text() + m.text()
			want, ok := findAll(p, m.groups, text)
			if !ok {
				continue
			}
			var got [][]int
			for place := range read.Places(text) {
				got = append(got, slices.Clone(place))
			}
			asked++
			places += len(want)
			if !slices.EqualFunc(got, want, slices.Equal[[]int]) {
				t.Fatalf("P8: %q in %q: %v, want %v", source, text, got, want)
			}
		}
	}
	if asked < 50000 || places < 2*asked {
		t.Errorf("too few were tried: %d asked, %d places", asked, places)
	}
}

func sizeFault(source string) (given fault.Fault) {
	defer func() { given, _ = recover().(fault.Fault) }()
	Read(source, 0)
	return given
}

// P4: what is found is what the ways, gone over one by one, tell; P3: and the size is what the document counts.
func TestWaysOneByOne(t *testing.T) {
	m := maker{Rand: rand.New(rand.NewSource(7))}
	asked, refused, matched := 0, 0, 0
	for range 20000 {
		m.groups = 0
		p := m.forks(4)
		source := p.source()
		if len(source) > api.MaxPattern {
			continue
		}
		if p.weight() > api.MaxSize {
			refused++
			if got := sizeFault(source); got.Err != api.ErrSize || got.Place != len(source) {
				t.Fatalf("P3: %q of the size %d: %v", source, p.weight(), got)
			}
			continue
		}
		read := Read(source, 0)
		for range 4 {
			text := m.text()
			want, ok := find(p, m.groups, text, 0)
			if !ok {
				continue
			}
			asked++
			if want != nil {
				matched++
			}
			if got := read.Find(text); !slices.Equal(got, want) {
				t.Fatalf("P4: %q in %q: %v, want %v", source, text, got, want)
			}
		}
	}
	if asked < 50000 || matched < 25000 || asked-matched < 5000 || refused < 50 {
		t.Errorf("too few were tried: %d asked, %d found, %d too large", asked, matched, refused)
	}
}
