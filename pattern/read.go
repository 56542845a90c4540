package pattern

import (
	"strings"

	"ribbon/api"
	"ribbon/fault"
)

const (
	// These bytes stand for themselves only behind a backslash.
	special      = "\\|*+?{}().^$[]"
	classSpecial = "\\[]-"

	// These may stand behind a backslash, and stand for themselves there.
	escaped      = special + "/"
	classEscaped = classSpecial + "^/"
)

// reader goes through a pattern once, from the front; at is the place of the byte that it looks at.
type reader struct {
	source string
	at     int
	groups int
}

func (r *reader) giveUp() {
	panic(fault.Fault{Err: api.ErrPattern, Place: r.at})
}

func (r *reader) ended() bool {
	return r.at == len(r.source)
}

func (r *reader) sees(b byte) bool {
	return !r.ended() && r.source[r.at] == b
}

func (r *reader) seesDigit() bool {
	return !r.ended() && '0' <= r.source[r.at] && r.source[r.at] <= '9'
}

// take goes past b, if it stands here.
func (r *reader) take(b byte) bool {
	if !r.sees(b) {
		return false
	}
	r.at++
	return true
}

func (r *reader) expect(b byte) {
	if !r.take(b) {
		r.giveUp()
	}
}

func (r *reader) whole() node {
	all := r.branches()
	if !r.ended() {
		r.giveUp()
	}
	return all
}

func (r *reader) branches() node {
	all := branches{r.branch()}
	for r.take('|') {
		all = append(all, r.branch())
	}
	return all
}

func (r *reader) branch() node {
	var pieces row
	for !r.ended() && !r.sees('|') && !r.sees(')') {
		pieces = append(pieces, r.piece())
	}
	return pieces
}

func (r *reader) piece() node {
	// A repeat behind one of these two is met as an atom, and refused there.
	if r.take('^') {
		return edge{kindBegin}
	}
	if r.take('$') {
		return edge{kindEnd}
	}
	return r.repeated(r.atom())
}

func (r *reader) atom() node {
	switch {
	case r.sees('('):
		return r.group()
	case r.take('.'):
		return one{set{}.others()}
	case r.take('['):
		return one{r.class()}
	}
	b := r.byteOf(special, escaped)
	var s set
	s.add(b, b)
	return one{s}
}

func (r *reader) group() node {
	if r.groups == api.MaxGroups {
		r.giveUp()
	}
	r.groups++
	number := r.groups
	r.expect('(')
	inner := r.branches()
	r.expect(')')
	return group{number, inner}
}

// byteOf reads a byte that is none of barred, or a backslash and what may stand behind it.
func (r *reader) byteOf(barred, behind string) byte {
	if r.take('\\') {
		return r.escape(behind)
	}
	if r.ended() || r.sees('\n') || strings.IndexByte(barred, r.source[r.at]) >= 0 {
		r.giveUp()
	}
	r.at++
	return r.source[r.at-1]
}

func (r *reader) escape(behind string) byte {
	switch {
	case r.take('n'):
		return '\n'
	case r.take('t'):
		return '\t'
	}
	if r.ended() || strings.IndexByte(behind, r.source[r.at]) < 0 {
		r.giveUp()
	}
	r.at++
	return r.source[r.at-1]
}

// class reads what stands behind the bracket that opens it.
func (r *reader) class() set {
	none := r.take('^')
	var s set
	r.item(&s)
	for !r.take(']') {
		r.item(&s)
	}
	if none {
		return s.others()
	}
	return s
}

func (r *reader) item(s *set) {
	if r.take('[') {
		r.expect(':')
		s.addSpans(r.name())
		r.expect(':')
		r.expect(']')
		return
	}
	first := r.byteOf(classSpecial, classEscaped)
	last := first
	if r.take('-') {
		at := r.at
		last = r.byteOf(classSpecial, classEscaped)
		if last < first {
			r.at = at
			r.giveUp()
		}
	}
	s.add(first, last)
}

// name reads a NAME byte by byte, as it must give up at the first with which none begins; it tells its spans.
func (r *reader) name() string {
	from := r.at
	for {
		if r.ended() || !beginsName(r.source[from:r.at+1]) {
			r.giveUp()
		}
		r.at++
		for i := range names {
			if names[i].name == r.source[from:r.at] {
				return names[i].spans
			}
		}
	}
}

func beginsName(text string) bool {
	for i := range names {
		if strings.HasPrefix(names[i].name, text) {
			return true
		}
	}
	return false
}

// repeated reads the repeat behind an atom, if there is one.
func (r *reader) repeated(atom node) node {
	switch {
	case r.take('*'):
		return repeat{atom, 0, endless}
	case r.take('+'):
		return repeat{atom, 1, endless}
	case r.take('?'):
		return repeat{atom, 0, 1}
	case r.take('{'):
		least, most := r.bounds()
		return repeat{atom, least, most}
	}
	return atom
}

// bounds reads what stands behind the brace that opens it.
func (r *reader) bounds() (least, most int) {
	least = r.number()
	most = least
	if r.take(',') {
		most = r.upper(least)
	}
	r.expect('}')
	return least, most
}

func (r *reader) upper(least int) int {
	if r.sees('}') {
		return endless
	}
	most := r.number()
	// A digit more, or the pattern's end, is a fault of its own, and further on.
	if most < least && !r.ended() && !r.seesDigit() {
		r.at--
		r.giveUp()
	}
	return most
}

// number reads one or two digits.
func (r *reader) number() int {
	if !r.seesDigit() {
		r.giveUp()
	}
	value := 0
	for digits := 0; digits < 2 && r.seesDigit(); digits++ {
		value = 10*value + int(r.source[r.at]-'0')
		if value > api.MaxRepeat {
			r.giveUp()
		}
		r.at++
	}
	return value
}
