package pattern

import (
	"strings"

	"ribbon/api"
	"ribbon/cursor"
)

const (
	// These bytes stand for themselves only behind a backslash.
	special      = "\\|*+?{}().^$[]"
	classSpecial = "\\[]-"

	// These may stand behind a backslash, and stand for themselves there.
	escaped      = special + "/"
	classEscaped = classSpecial + "^/"
)

type reader struct {
	cursor.Cursor
	groups int
}

func (r *reader) whole() node {
	all := r.branches()
	if !r.Ended() {
		r.GiveUp()
	}
	return all
}

func (r *reader) branches() node {
	all := branches{r.branch()}
	for r.Take('|') {
		all = append(all, r.branch())
	}
	return all
}

func (r *reader) branch() node {
	var pieces row
	for !r.Ended() && !r.Sees('|') && !r.Sees(')') {
		pieces = append(pieces, r.piece())
	}
	return pieces
}

func (r *reader) piece() node {
	// A repeat behind one of these two is met as an atom, and refused there.
	if r.Take('^') {
		return edge{kindBegin}
	}
	if r.Take('$') {
		return edge{kindEnd}
	}
	return r.repeated(r.atom())
}

func (r *reader) atom() node {
	switch {
	case r.Sees('('):
		return r.group()
	case r.Take('.'):
		return one{set{}.others()}
	case r.Take('['):
		return one{r.class()}
	}
	b := r.byteOf(special, escaped)
	var s set
	s.add(b, b)
	return one{s}
}

func (r *reader) group() node {
	if r.groups == api.MaxGroups {
		r.GiveUp()
	}
	r.groups++
	number := r.groups
	r.Expect('(')
	inner := r.branches()
	r.Expect(')')
	return group{number, inner}
}

// byteOf reads a byte that is none of barred, or a backslash and what may stand behind it.
func (r *reader) byteOf(barred, behind string) byte {
	if r.Take('\\') {
		return r.escape(behind)
	}
	if r.Ended() || r.Sees('\n') || strings.IndexByte(barred, r.Source[r.At]) >= 0 {
		r.GiveUp()
	}
	r.At++
	return r.Source[r.At-1]
}

func (r *reader) escape(behind string) byte {
	switch {
	case r.Take('n'):
		return '\n'
	case r.Take('t'):
		return '\t'
	}
	if r.Ended() || strings.IndexByte(behind, r.Source[r.At]) < 0 {
		r.GiveUp()
	}
	r.At++
	return r.Source[r.At-1]
}

// class reads what stands behind the bracket that opens it.
func (r *reader) class() set {
	none := r.Take('^')
	var s set
	r.item(&s)
	for !r.Take(']') {
		r.item(&s)
	}
	if none {
		return s.others()
	}
	return s
}

func (r *reader) item(s *set) {
	if r.Take('[') {
		r.Expect(':')
		s.addSpans(r.name())
		r.Expect(':')
		r.Expect(']')
		return
	}
	first := r.byteOf(classSpecial, classEscaped)
	last := first
	if r.Take('-') {
		at := r.At
		last = r.byteOf(classSpecial, classEscaped)
		if last < first {
			r.At = at
			r.GiveUp()
		}
	}
	s.add(first, last)
}

// name reads a NAME byte by byte, as it must give up at the first with which none begins; it tells its spans.
func (r *reader) name() string {
	from := r.At
	for {
		if r.Ended() || !beginsName(r.Source[from:r.At+1]) {
			r.GiveUp()
		}
		r.At++
		for i := range names {
			if names[i].name == r.Source[from:r.At] {
				return names[i].spans
			}
		}
	}
}

func beginsName(text string) bool {
	for i := range names {
		if strings.HasPrefix(names[i].name, text) {
			return true
		}
	}
	return false
}

// repeated reads the repeat behind an atom, if there is one.
func (r *reader) repeated(atom node) node {
	switch {
	case r.Take('*'):
		return repeat{atom, 0, endless}
	case r.Take('+'):
		return repeat{atom, 1, endless}
	case r.Take('?'):
		return repeat{atom, 0, 1}
	case r.Take('{'):
		least, most := r.bounds()
		return repeat{atom, least, most}
	}
	return atom
}

// bounds reads what stands behind the brace that opens it.
func (r *reader) bounds() (least, most int) {
	least = r.number()
	most = least
	if r.Take(',') {
		most = r.upper(least)
	}
	r.Expect('}')
	return least, most
}

func (r *reader) upper(least int) int {
	if r.Sees('}') {
		return endless
	}
	most := r.number()
	// A digit more, or the pattern's end, is a fault of its own, and further on.
	if most < least && !r.Ended() && !r.SeesDigit() {
		r.At--
		r.GiveUp()
	}
	return most
}

// number reads one or two digits.
func (r *reader) number() int {
	if !r.SeesDigit() {
		r.GiveUp()
	}
	value := 0
	for digits := 0; digits < 2 && r.SeesDigit(); digits++ {
		value = 10*value + int(r.Source[r.At]-'0')
		if value > api.MaxRepeat {
			r.GiveUp()
		}
		r.At++
	}
	return value
}
