package pattern

// set holds bytes, one bit each.
type set [4]uint64

// add takes in all bytes from first to last.
func (s *set) add(first, last byte) {
	// An int counts, since a byte would wrap round behind 255.
	for b := int(first); b <= int(last); b++ {
		s[b/64] |= 1 << (b % 64)
	}
}

// addSpans takes in spans: pairs of a first and a last byte.
func (s *set) addSpans(spans string) {
	for i := 0; i+1 < len(spans); i += 2 {
		s.add(spans[i], spans[i+1])
	}
}

func (s set) has(b byte) bool {
	return s[b/64]>>(b%64)&1 == 1
}

func (s set) others() set {
	for i := range s {
		s[i] = ^s[i]
	}
	return s
}

// names has the NAMES of a class, and the spans of bytes that each says.
var names = [...]struct{ name, spans string }{
	{"alpha", "AZaz"},
	{"digit", "09"},
	{"alnum", "09AZaz"},
	{"upper", "AZ"},
	{"lower", "az"},
	{"space", "\t\r  "},
	{"punct", "!/:@[`{~"},
}
