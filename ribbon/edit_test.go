package ribbon

import (
	"slices"
	"strings"
	"sync"
	"testing"

	"ribbon/api"
)

func started(t *testing.T, script string) *Editor {
	t.Helper()
	p, err, place := Compile(script)
	if err != api.OK {
		t.Fatalf("Compile(%.80q) = %d, %d", script, err, place)
	}
	e := p.Start()
	if e == nil {
		t.Fatalf("P7: Start() of %.80q = nil", script)
	}
	return e
}

// gives holds an editor that is fed with pieces, and ended, against all that it must tell.
func gives(t *testing.T, script string, pieces []string, want api.Reply) {
	t.Helper()
	e := started(t, script)
	all := ""
	for _, piece := range pieces {
		all += e.Feed(piece).Out
	}
	got := e.End()
	got.Out = all + got.Out
	if got != want {
		t.Errorf("P8: %.80q of %.80q: %.120q, %v, %d, %d, want %.120q, %v, %d, %d", script, pieces, got.Out, got.Over, got.Err, got.Status, want.Out, want.Over, want.Err, want.Status)
	}
	want.Out = ""
	for range 2 {
		if got := e.Feed("more\n"); got != want {
			t.Errorf("P8: %.80q, fed behind the end: %v, want %v", script, got, want)
		}
		if got := e.End(); got != want {
			t.Errorf("P8: %.80q, ended behind the end: %v, want %v", script, got, want)
		}
	}
}

// quits holds a script against what it tells of an input, and with which status: in one piece, byte by byte, with empty pieces, and cut in two anywhere.
func quits(t *testing.T, script, input, out string, status int) {
	t.Helper()
	want := api.Reply{Out: out, Over: true, Status: status}
	gives(t, script, []string{input}, want)
	var bytes []string
	for i := range len(input) {
		bytes = append(bytes, input[i:i+1])
	}
	gives(t, script, bytes, want)
	gives(t, script, []string{"", input, "", ""}, want)
	for i := range len(input) {
		gives(t, script, []string{input[:i], input[i:]}, want)
	}
}

func edits(t *testing.T, script, input, out string) {
	t.Helper()
	quits(t, script, input, out, 0)
}

// lines puts a newline behind each word.
func lines(words string) string {
	return strings.Join(strings.Fields(words), "\n") + "\n"
}

// P8: which lines there are.
func TestLines(t *testing.T) {
	edits(t, "", "", "")
	edits(t, "", "\n", "\n")
	edits(t, "", "\n\n\n", "\n\n\n")
	edits(t, "", "a", "a\n")
	edits(t, "", "a\n", "a\n")
	edits(t, "", "a\nb", "a\nb\n")
	edits(t, "", "a\n\n", "a\n\n")
	edits(t, "", "\na", "\na\n")
	edits(t, "", "a\r\n\x00\xff\n", "a\r\n\x00\xff\n")
	edits(t, "#n", "a\nb", "")
	edits(t, "=", "", "")
	edits(t, "#n\n=", "\n\na\n\nb", "1\n2\n3\n4\n5\n")
	edits(t, "i x", "", "")
}

// P8: what a line brings is told with the piece that completes it, and not ahead of that.
func TestAsSoonAsItCan(t *testing.T) {
	e := started(t, "s/a/b/;2i x")
	for _, c := range []struct{ in, out string }{
		{"", ""}, {"a", ""}, {"a", ""}, {"\n", "ba\n"}, {"", ""}, {"\n", "x\n\n"}, {"a\na\na", "b\nb\n"}, {"a\nc", "ba\n"}, {"\n\n", "c\n\n"}, {"q", ""},
	} {
		if r := e.Feed(c.in); r != (api.Reply{Out: c.out}) {
			t.Errorf("P8: Feed(%q) = %v, want %q", c.in, r, c.out)
		}
	}
	if r := e.End(); r != (api.Reply{Out: "q\n", Over: true}) {
		t.Errorf("P8: End() = %v", r)
	}
	// A `D` needs no line, and does not wait for one.
	e = started(t, "s/ /\\n/g;P;D")
	if r := e.Feed("a b c\n"); r != (api.Reply{Out: "a\nb\nc\n"}) {
		t.Errorf("P8: a D waits: %v", r)
	}
	// Nor does a `q`: the editing is over at once.
	e = started(t, "2q9")
	if r := e.Feed("a\nb"); r != (api.Reply{Out: "a\n"}) {
		t.Errorf("P8: Feed = %v", r)
	}
	if r := e.Feed("\nc\n"); r != (api.Reply{Out: "b\n", Over: true, Status: 9}) {
		t.Errorf("P8: Feed = %v", r)
	}
	if r := e.Feed("c\n"); r != (api.Reply{Over: true, Status: 9}) {
		t.Errorf("P8: Feed behind a q = %v", r)
	}
	// An End without a line more tells nothing.
	e = started(t, "p")
	e.Feed("a\n")
	if r := e.End(); r != (api.Reply{Over: true}) {
		t.Errorf("P8: End() = %v", r)
	}
}

// The commands without addresses, alone.
func TestEachCommand(t *testing.T) {
	in := "ab\nc\n"
	for _, c := range []struct{ script, out string }{
		{"{}", in}, {"{p}", "ab\nab\nc\nc\n"}, {":x", in}, {"b", in}, {"t", in}, {"a x", "ab\nx\nc\nx\n"}, {"i x", "x\nab\nx\nc\n"}, {"c x", "x\nx\n"}, {"s/b/x/", "ax\nc\n"}, {"y/abc/bca/", "bc\na\n"}, {"d", ""}, {"D", ""}, {"g", "\n\n"}, {"G", "ab\n\nc\n\n"}, {"h", in}, {"H", in}, {"x", "\nab\n"}, {"p", "ab\nab\nc\nc\n"}, {"P", "ab\nab\nc\nc\n"}, {"l", "ab$\nab\nc$\nc\n"}, {"=", "1\nab\n2\nc\n"}, {"q", "ab\n"}, {"w f", in},
	} {
		edits(t, c.script, in, c.out)
		// In blocks, at the line that they say, and quiet ones.
		edits(t, "{"+c.script+"\n}", in, c.out)
		edits(t, "1,9{{1!{}\n"+c.script+"\n}}", in, c.out)
		edits(t, "3{"+c.script+"\n}", in, in)
		edits(t, "!{"+c.script+"\n};!{{}}", in, in)
		if c.script[0] == ':' {
			continue
		}
		if c.script == "c x" {
			edits(t, "1,2"+c.script, in, "x\n")
		} else {
			edits(t, "1,2"+c.script, in, c.out)
		}
		edits(t, "3!"+c.script, in, c.out)
		edits(t, "/x/ !  "+c.script, in, c.out)
		edits(t, "!"+c.script, in, in)
		edits(t, "3"+c.script, in, in)
		edits(t, "3,4"+c.script, in, in)
		edits(t, "1,/c/!"+c.script, in, in)
	}
	for _, c := range []struct{ script, out string }{
		{"", ""}, {"a x", "x\nx\n"}, {"i x", "x\nx\n"}, {"c x", "x\nx\n"}, {"p", in}, {"P", in}, {"l", "ab$\nc$\n"}, {"=", "1\n2\n"}, {"s/./x/p", "xb\nx\n"}, {"d", ""}, {"q", ""}, {"q 4", ""}, {"1a x\n1q", "x\n"},
	} {
		status := 0
		if c.script == "q 4" {
			status = 4
		}
		quits(t, "#n\n"+c.script, in, c.out, status)
	}
}

// Addresses: each kind, with and without `!`.
func TestWhere(t *testing.T) {
	in := lines("a b ab c abc")
	for _, c := range []struct{ address, out string }{
		{"", "a b ab c abc"}, {"1", "a"}, {"5", "abc"}, {"6", ""}, {"1000000", ""}, {"/a/", "a ab abc"}, {"/^a$/", "a"}, {"/z*/", "a b ab c abc"}, {"/c$/", "c abc"}, {"//", "a b ab c abc"}, {"/[^a]/", "b ab c abc"},
		{"1,2", "a b"}, {"2,2", "b"}, {"2,1", "b"}, {"4,1", "c"}, {"4,9", "c abc"}, {"5,9", "abc"}, {"9,1", ""}, {"2,1000000", "b ab c abc"},
		{"2,/a/", "b ab"}, {"1,/a/", "a b ab"}, {"1,/x/", "a b ab c abc"}, {"5,/a/", "abc"}, {"6,/a/", ""},
		{"/b/,/b/", "b ab abc"}, {"/a/,/a/", "a b ab abc"}, {"/c/,/a/", "c abc"}, {"/x/,/a/", ""}, {"/a/,//", "a b ab c abc"}, {"//,//", "a b ab c abc"},
		{"/a/,1", "a ab abc"}, {"/a/,2", "a b ab abc"}, {"/a/,3", "a b ab abc"}, {"/a/,4", "a b ab c abc"}, {"/ab/,4", "ab c abc"}, {"/c/,1", "c abc"},
	} {
		chooses(t, c.address, in, c.out)
	}
}

// chooses holds an address against the lines of an input, which differ from each other, at which a command is done.
func chooses(t *testing.T, address, in, out string) {
	t.Helper()
	want := strings.Join(append(strings.Fields(out), ""), "\n")
	edits(t, "#n\n"+address+"p", in, want)
	edits(t, address+"!d", in, want)
	edits(t, address+"{b;};d", in, want)
	rest := ""
	for _, word := range strings.Fields(in) {
		if !slices.Contains(strings.Fields(out), word) {
			rest += word + "\n"
		}
	}
	edits(t, address+"d", in, rest)
	edits(t, "#n\n"+address+"!p", in, rest)
	edits(t, "#n\n"+address+"!{p\n}", in, rest)
}

// P8: as many lines as can be numbered, and one more.
func TestManyLines(t *testing.T) {
	in := repeat("\n", api.MaxNumber)
	gives(t, "1000000!d;s/^/x/", []string{in, "\n\n"}, api.Reply{Out: "x\n", Over: true})
	gives(t, "#n\n1000000,1=;999999,1000000p", []string{in + "\n\n"}, api.Reply{Out: "\n1000000\n\n", Over: true})
	gives(t, "1000000!d;=;q 7", []string{in + "\n\n"}, api.Reply{Out: "1000000\n\n", Over: true, Status: 7})
}

// Ranges: what is kept of them, and when they are looked at.
func TestRanges(t *testing.T) {
	in := lines("1 2 3 4 5 6")
	// It begins again, behind its end.
	edits(t, "#n\n/1|4/,/2|5/p", in, lines("1 2 4 5"))
	edits(t, "#n\n/1|3/,/2|3/p", in, lines("1 2 3 4 5 6"))
	// It never ends.
	edits(t, "#n\n/3/,/x/p", in, lines("3 4 5 6"))
	edits(t, "#n\n/3/,/3/p", in, lines("3 4 5 6"))
	edits(t, "3,/x/!d", in, lines("3 4 5 6"))
	// It is not reached where it would begin, or end.
	edits(t, "#n\n/2/b\n/2/,/4/p", in, "")
	edits(t, "#n\n2!{/2/,/4/p\n}", in, "")
	edits(t, "#n\n4!{/2/,/4/p\n}", in, lines("2 3 5 6"))
	edits(t, "#n\n4b\n2,/4/p", in, lines("2 3 5 6"))
	edits(t, "#n\n3!{2,/3|6/p\n}", in, lines("2 4 5 6"))
	// A greater number ends it too, with that line.
	edits(t, "#n\n3b\n1,3p", in, lines("1 2 4"))
	edits(t, "#n\n3b;4b\n1,3p", in, lines("1 2 5"))
	edits(t, "3b\n1,3d", in, lines("3 5 6"))
	edits(t, "#n\n3,4!{/[25]/,3p\n}", in, lines("2 5"))
	edits(t, "#n\n2,5!{1,4p\n}", in, lines("1 6"))
	edits(t, "#n\n2,4{b\n};/[1]/,3p", in, lines("1 5"))
	// Two commands have one each.
	edits(t, "#n\n/2/,/3/p;/3/,/2/p", in, lines("2 3 3 4 5 6"))
	edits(t, "#n\n/2/,/3/p;/2/,/4/p", in, lines("2 2 3 3 4"))
	edits(t, "2,3{4,5d};4,5{2,3d}", in, in)
	edits(t, "1,3{2,4{p\n}}", in, lines("1 2 2 3 3 4 5 6"))
	// The space may have changed when it is looked at.
	edits(t, "#n\n2s/.*/x/;3s/.*/y/;/x/,/y/p", in, lines("x y"))
	edits(t, "#n\n/x/,/y/p;2s/.*/x/;3s/.*/y/", in, "")
	// It is looked at more than once in a cycle: next is the next time.
	edits(t, "#n\n2{:a\n/2/,/2x/{p;s/$/x/;/xxx/b\nba\n}\n}", in, lines("2 2x 2xx"))
	edits(t, "#n\n:a\n1,/x/p;s/^1/x/;ta", in, "1\nx\n")
	edits(t, "#n\n:a\n1,2p;s/^[123]/x/;ta", in, "1\nx\n2\n")
	edits(t, "#n\n:a\n1,1p;s/^[123]/x/;ta", in, "1\nx\n")
	edits(t, "#n\n1,2{s/,/\\n/;P;D\n}", "a,b\nc,d\ne\n", lines("a b c"))
	// With `!` it is looked at all the same.
	edits(t, "2,/4/!d", in, lines("2 3 4"))
	edits(t, "/2/,/4/!s/$/!/", in, lines("1! 2 3 4 5! 6!"))
}

func TestBlocks(t *testing.T) {
	in := lines("a b c")
	edits(t, "2{p;{p;{p}}}", in, lines("a b b b b c"))
	edits(t, "2{p;3{p;p};p}", in, lines("a b b b c"))
	edits(t, "2!{=};=", in, "1\n1\na\n2\nb\n3\n3\nc\n")
	edits(t, "{1d};{{3d}}", in, "b\n")
	edits(t, "1{{{{{{{{p}}}}}}}};p", in, lines("a a a b b c c"))
	edits(t, "/a/{s/a/b/;/a/p;/b/{s/b/c/}};/c/s/^/>/", in, lines(">c b >c"))
	edits(t, "1{};2{;};3{}", in, in)
	edits(t, "1{};2{{};p};3!{};3p", in, lines("a b b c c"))
}

// `s`: what is replaced, by each flag and their pairs.
func TestReplacing(t *testing.T) {
	in := "foo boo\n"
	for _, c := range []struct{ flags, out string }{
		{"", "f0o boo"}, {"1", "f0o boo"}, {"2", "fo0 boo"}, {"3", "foo b0o"}, {"4", "foo bo0"}, {"5", "foo boo"}, {"1000000", "foo boo"},
		{"g", "f00 b00"}, {"1g", "f00 b00"}, {"g2", "fo0 b00"}, {"2g", "fo0 b00"}, {"3g", "foo b00"}, {"g4", "foo bo0"}, {"5g", "foo boo"},
	} {
		edits(t, "s/o/0/"+c.flags, in, c.out+"\n")
		edits(t, "s/x/0/"+c.flags, in, in)
		told := c.out + "\n" + c.out + "\n"
		if c.out+"\n" == in {
			told = in
		}
		edits(t, "s/o/0/"+c.flags+"p", in, told)
		edits(t, "s/o/0/p"+c.flags, in, told)
		edits(t, "#n\ns/o/0/"+c.flags+"p", in, told[:len(told)-len(in)])
		edits(t, "s/x/0/p"+c.flags, in, in)
		written := c.out + "\n"
		if written == in {
			written = ""
		}
		writes(t, "s/o/0/"+c.flags+"w f", in, api.File{Name: "f", Text: written})
		writes(t, "s/o/0/"+c.flags+"pw f", in, api.File{Name: "f", Text: written})
		edits(t, "s/o/0/"+c.flags+"pw f", in, told)
	}
	// What is replaced by itself was replaced.
	edits(t, "s/o/o/p", in, in+in)
	edits(t, "s/$//p", in, in+in)
	writes(t, "s/o/&/w f", in, api.File{Name: "f", Text: in})
}

// `s`: places, one behind the other.
func TestPlaces(t *testing.T) {
	for _, c := range []struct{ script, in, out string }{
		{"s/x*/-/g", "abc", "-a-b-c-"}, {"s/x*/-/g", "axxc", "-a-c-"}, {"s/x*/-/g", "xx", "-"}, {"s/x*/-/g", "xxa", "-a-"}, {"s/x*/-/g", "axx", "-a-"}, {"s/x*/-/g", "", "-"}, {"s/a*/x/g", "baaac", "xbxcx"},
		{"s/b*/x/2", "abc", "axc"}, {"s/b*/x/3", "abc", "abcx"}, {"s/b*/x/4", "abc", "abc"}, {"s/x*/-/2g", "abc", "a-b-c-"}, {"s/x*/-/4g", "abc", "abc-"}, {"s/x*/-/5g", "abc", "abc"},
		{"s//-/g", "ab", "-a-b-"}, {"s//-/2", "ab", "a-b"}, {"s/|a/-/g", "aab", "--b-"}, {"s/a|/-/g", "aab", "--b-"}, {"s/()/-/g", "ab", "-a-b-"},
		{"s/aa/x/g", "aaaaa", "xxa"}, {"s/aba/x/g", "ababab", "xbab"}, {"s/aa|a/x/g", "aaa", "xx"}, {"s/a|aa/x/g", "aaa", "xx"}, {"s/a|ab|abc/x/g", "abcab", "xx"},
		{"s/^a/x/g", "aaa", "xaa"}, {"s/^/x/g", "aa", "xaa"}, {"s/^a*/x/g", "aab", "xb"}, {"s/^|b/x/g", "abb", "xaxx"}, {"s/^a/x/2", "aaa", "aaa"}, {"s/(^|b)a/x/g", "aaba", "xax"}, {"s/^a|^b/x/g", "ab", "xb"},
		{"s/a$/x/g", "aaa", "aax"}, {"s/$/x/g", "aa", "aax"}, {"s/a*$/x/g", "baa", "bx"}, {"s/$|b/x/g", "abb", "axx"}, {"s/$|a/x/g", "abb", "xbbx"}, {"s/^$/x/g", "", "x"}, {"s/^$/x/", "a", "a"}, {"s/^.*$/x/g", "abc", "x"}, {"s/^|$/x/g", "ab", "xabx"}, {"s/^|$/x/g", "", "x"}, {"s/^|$/x/2", "ab", "abx"},
		{"s/b|$/x/2", "ab", "ab"}, {"s/a|$/x/2", "ab", "abx"}, {"s/a*b|a/x/g", "aab aa", "x xx"}, {"s/.*/x/g", "ab", "x"}, {"s/.?/x/g", "ab", "xx"}, {"s/./&&/g", "ab", "aabb"},
		{"s/(a*)*/x/g", "baac", "xbxcx"}, {"s/(a|b)*c|b/x/g", "ababcabb", "xaxx"}, {"s/[^a]*/<&>/g", "abba", "<>a<bb>a<>"},
	} {
		edits(t, c.script, c.in+"\n", c.out+"\n")
	}
	// All is bytes.
	edits(t, "s/./x/g", "\u00e9\xff\x00\r\n", "xxxxx\n")
	edits(t, "s/[^a]/x/2", "a\xc3\xa9\n", "a\xc3x\n")
	edits(t, "s/\xa9*/-/g", "\xc3\xa9\n", "-\xc3-\n")
	// A newline within the space is neither its beginning nor its end, and is any byte.
	edits(t, "s/b/\\n/;s/^/</g;s/$/>/g", "abc\n", "<a\nc>\n")
	edits(t, "s/b/\\n/;s/^c/x/;s/a$/x/;s/\\n./-/", "abc\n", "a-\n")
	edits(t, "s/b/\\n/;s/a.c/x/", "abc\n", "x\n")
	edits(t, "s/b/\\n/g;s/\\n*/-/g", "abbc\n", "-a-c-\n")
}

// `s`: what comes where something was found.
func TestNew(t *testing.T) {
	for _, c := range []struct{ script, in, out string }{
		{"s/b/[&]/", "abc", "a[b]c"}, {"s/b/&&&/", "abc", "abbbc"}, {"s/b/\\&/", "abc", "a&c"}, {"s/b/\\\\&/", "abc", "a\\bc"}, {"s/b/\\//", "abc", "a/c"}, {"s/b/\\n/", "abc", "a\nc"}, {"s/b/\\t/", "abc", "a\tc"}, {"s/b//", "abc", "ac"}, {"s/.*//", "abc", ""}, {"s/b/\\n&\\t/", "abc", "a\nb\tc"}, {"s/b/n t/", "abc", "an tc"},
		{"s/(a)(b)/\\2\\1/", "abc", "bac"}, {"s/(a)(b)/\\2x\\1&/", "abc", "bxaabc"}, {"s/(a)(b)?/[\\2\\1&]/g", "abab a", "[baab][baab] [aa]"}, {"s/(a)|(b)/<\\1-\\2>/g", "abc", "<a-><-b>c"}, {"s/(x)*b/<\\1>/", "abc", "a<>c"}, {"s/(x*)b/<\\1>/", "abc", "a<>c"}, {"s/((a)b)/\\1\\2/", "abc", "abac"}, {"s/(a|b)*/\\1/", "abc", "bc"},
		{"s/(.)(.)(.)(.)(.)(.)(.)(.)(.)/\\9\\8\\7\\6\\5\\4\\3\\2\\1/", "123456789", "987654321"}, {"s/(a)/\\11/", "a", "a1"}, {"s/(a)/\\1&1/", "a", "aa1"}, {"s/b/;}#!/", "abc", "a;}#!c"}, {"s/(ab)|(a)|(b)/\\1\\2\\3-/g", "abba", "ab-b-a-"}, {"s/\\//x\\/y/g", "/a/", "x/yax/y"},
	} {
		edits(t, c.script, c.in+"\n", c.out+"\n")
	}
	// What was put in is not looked at again.
	edits(t, "s/a/aa/g", "aba\n", "aabaa\n")
	edits(t, "s/x*/x/g", "ab\n", "xaxbx\n")
}

func TestExchange(t *testing.T) {
	edits(t, "y/abc/xyz/", "cab d\n", "zxy d\n")
	edits(t, "y/ab/ba/", "abab\n", "baba\n")
	edits(t, "y/abc/aaa/", "abcd\n", "aaad\n")
	edits(t, "y///", "ab\n", "ab\n")
	edits(t, "y/a\\/\\\\\\t/\\nbc\\//", "a/\\\tx\n", "\nbc/x\n")
	edits(t, "s/b/\\n/;y/\\n/,/", "abc\n", "a,c\n")
	edits(t, "y/\x00\xffa/a\x00\xff/", "\x00\xffa\n", "a\x00\xff\n")
	// It is no `s`.
	edits(t, "y/a/b/;t;d", "a\n", "")
}

// `b` and `t`.
func TestGoing(t *testing.T) {
	edits(t, "b;d", lines("a b"), lines("a b"))
	edits(t, "2b;d", lines("a b c"), "b\n")
	edits(t, "2b e\nd;:e", lines("a b c"), "b\n")
	edits(t, "be;:x;d;:e;/a/bx", lines("a b"), "b\n")
	edits(t, "1{be\n};d;:e;p", lines("a b"), "a\na\n")
	edits(t, "b in\n2{p;:in;=}", lines("a b"), "1\na\n2\nb\n")
	edits(t, "2{b out\n};=;:out", lines("a b c"), "1\na\nb\n3\nc\n")
	edits(t, "/a/!{b\n};s/a/b/", lines("a c"), lines("b c"))
	// With and without a replacement.
	edits(t, "t;d", lines("a b"), "")
	edits(t, "s/a/x/;t;s/$/!/", lines("a b a"), lines("x b! x"))
	edits(t, "s/a/x/;s/b/y/;t;d", lines("a b c ab"), lines("x y xy"))
	edits(t, "s/a/x/;s/b/y/;te\ns/$/./;:e", lines("a c"), lines("x c."))
	edits(t, ":a;s/^(x*)a/\\1x/;ta", lines("aaab b"), lines("xxxb b"))
	// What was replaced is forgotten by a `t` that goes, and by no other.
	edits(t, "s/a/x/;te;:e;t;s/$/!/", lines("a b"), lines("x! b!"))
	edits(t, "s/a/x/;1!te;t;s/$/!/;:e", lines("a a b"), lines("x x b!"))
	edits(t, "s/a/x/;!te;t;d;:e;d", "a\n", "x\n")
	edits(t, "s/a/x/;te;:e;s/x/y/;t;d", "a\n", "y\n")
	// It is forgotten when a cycle begins, also by one that reads no line.
	edits(t, "2{t\n};s/a/x/;2d", lines("a b"), "x\n")
	edits(t, "1s/a/x/;1b\nt;d", lines("a b"), "x\n")
	edits(t, "s/a/x\\n/;t;d", lines("a b"), "x\n\n")
	edits(t, "t e\ns/a/x\\ny/;D;:e;s/$/ went/", lines("a"), "")
	edits(t, "/y/{te\nd;:e;s/$/ went/;b\n};s/a/x\\ny/;D", lines("a"), "")
	// The space may be another one meanwhile.
	edits(t, "s/a/b/;x;t e\nd;:e", "a\nx\n", "\n")
}

// The order of what is told.
func TestOrder(t *testing.T) {
	in := lines("a b")
	edits(t, "a x\ni y", in, lines("y a x y b x"))
	edits(t, "a x\na y\na z", "a\n", lines("a x y z"))
	edits(t, "i x\ni y", "a\n", lines("x y a"))
	edits(t, "a x\np\ni y\n=", "a\n", lines("a y 1 a x"))
	edits(t, "a x\nd", in, lines("x x"))
	edits(t, "a x\nD", in, lines("x x"))
	edits(t, "a x\nc y", in, lines("y x y x"))
	edits(t, "c y\na x", in, lines("y y"))
	edits(t, "a x\nq", in, lines("a x"))
	edits(t, "a x\np\nq", in, lines("a a x"))
	edits(t, "q\na x", in, "a\n")
	edits(t, "a x\nb\na y", "a\n", lines("a x"))
	edits(t, "1a x\n2a y", in, lines("a x b y"))
	edits(t, "1!a x\n1!d", lines("a b c"), lines("a x x"))
	edits(t, "#n\na x\ni y\np", in, lines("y a x y b x"))
	edits(t, "#n\na x\nq", in, "x\n")
	edits(t, "s/a/x/p;p;s/x/y/p", in, lines("x x y y b b"))
	// By a `D` the cycle ends, and what was brought is told.
	edits(t, "/ /{s/ /\\n/\na x\n};P;D", "a b\n", lines("a x b"))
	edits(t, "/ /s/ /\\n/;a x\n;D", "a b\n", lines("x")+lines("x"))
	edits(t, "1{a x\nb\n};a y", in, lines("a x b y"))
	// TEXT.
	edits(t, "a", "a\n", "a\n\n")
	edits(t, "i", "a\n", "\na\n")
	edits(t, "c", "a\n", "\n")
	edits(t, "a \t x y ;}#\\\\n\\n\\t\\\\", "a\n", "a\nx y ;}#\\n\n\t\\\n")
	edits(t, "i\\n", "a\n", "\n\na\n")
	edits(t, "c x\\ny", "a\n", "x\ny\n")
	edits(t, "iax\nax", "a\n", lines("ax a x"))
	edits(t, "i x  ", "a\n", "x  \na\n")
}

// `c`, in a range and with `!`.
func TestChange(t *testing.T) {
	in := lines("a b c d")
	edits(t, "2c x", in, lines("a x c d"))
	edits(t, "2!c x", in, lines("x b x x"))
	edits(t, "/b|c/c x", in, lines("a x x d"))
	edits(t, "2,3c x", in, lines("a x d"))
	edits(t, "2,3!c x", in, lines("x b c x"))
	edits(t, "2,/c/c x", in, lines("a x d"))
	edits(t, "/b/,/c/!c x", in, lines("x b c x"))
	edits(t, "3,2c x", in, lines("a b x d"))
	edits(t, "3,3c x", in, lines("a b x d"))
	edits(t, "/b|d/,1c x", in, lines("a x c x"))
	edits(t, "2,9c x", in, lines("a"))
	edits(t, "2,/x/c x", in, lines("a"))
	edits(t, "2,/b/c x", in, lines("a"))
	edits(t, "2,/x/!c x", in, lines("x b c d"))
	edits(t, "3b\n1,3c x", in, lines("c x"))
	edits(t, "2,3{c x\n}", in, lines("a x x d"))
	edits(t, "2,3{2,3c x\n}", in, lines("a x d"))
	edits(t, "2,3{1,9!c x\n}", in, lines("a x x d"))
	// The cycle ends, whether it was told or not.
	edits(t, "2,3c x\np", in, lines("a a x d d"))
	edits(t, "#n\n2,3c x\np", in, lines("a x d"))
	edits(t, "a y\n2,3c x", in, lines("a y y x y d y"))
}

// `D`, `P`, and what is held.
func TestHeld(t *testing.T) {
	in := lines("a b c")
	edits(t, "D", in, "")
	edits(t, "p;D;p", in, in)
	edits(t, "s/,/\\n/g;P;D", "a,b,,c\nd\n", "a\nb\n\nc\nd\n")
	edits(t, "s/,/\\n/g;P;D;p", "a,b\n", "a\nb\n")
	edits(t, "=;s/,/\\n/;D", "a,b,c\nd\n", "1\n1\n1\n2\n")
	edits(t, "/,/{s/,/\\n/;D\n}", "a,b\nc\n", "b\nc\n")
	edits(t, "/,/{s/,/\\n/;D\n}", "a,\nc\n", "\nc\n")
	edits(t, "/,/!b\ns/,/\\n/2g;s/,/;/;D", "a,b,c\n", "c\n")
	edits(t, "/^x/b\ns/^/\\nx/;D", "a\n", "xa\n")
	edits(t, "s/,/\\n/g;P", "a,b,c\n", "a\na\nb\nc\n")
	edits(t, "s/,/\\n/;P", ",a\n", "\n\na\n")
	edits(t, "P", "\n", "\n\n")
	edits(t, "h;G", in, lines("a a b b c c"))
	edits(t, "G", in, "a\n\nb\n\nc\n\n")
	edits(t, "g", in, "\n\n\n")
	edits(t, "x", in, "\na\nb\n")
	edits(t, "x;x", in, in)
	edits(t, "H;x", lines("a b"), "\na\na\nb\n")
	edits(t, "H;g", lines("a b"), "\na\n\na\nb\n")
	edits(t, "1h;2g;3G", in, lines("a a c a"))
	edits(t, "h;s/./x/;G", in, lines("x a x b x c"))
	edits(t, "h;s/./x/;g", in, in)
	edits(t, "1!G;h;3!d", in, lines("c b a"))
	edits(t, "H;d", in, "")
	edits(t, "H;3!d;x;s/\\n/,/g", in, ",a,b,c\n")
	edits(t, "h;D", in, "")
	edits(t, "/b/{x;p;x\n};h", in, lines("a a b c"))
	edits(t, "1{x;d\n};G", in, "b\na\nc\na\n")
}

func TestList(t *testing.T) {
	all := ""
	told := ""
	for b := range 256 {
		if b == '\n' {
			continue
		}
		all += string([]byte{byte(b)})
		switch {
		case b == '\t':
			told += "\\t"
		case b == '\\':
			told += "\\\\"
		case b < 32 || b > 126:
			told += "\\" + string([]byte{byte('0' + b/64), byte('0' + b/8%8), byte('0' + b%8)})
		default:
			told += string([]byte{byte(b)})
		}
	}
	gives(t, "l;d", []string{all + "\n"}, api.Reply{Out: told + "$\n", Over: true})
	edits(t, "#n\nl", "\n", "$\n")
	edits(t, "#n\nl", "$\n", "$$\n")
	edits(t, "s/b/\\n/g;l", "abbc\n", "a\\n\\nc$\na\n\nc\n")
	edits(t, "#n\nl", repeat("a", 200)+"\n", repeat("a", 200)+"$\n")
	edits(t, "#n\nl", "\x01\x1f\x7f\x80\xffn8\n", "\\001\\037\\177\\200\\377n8$\n")
}

// `q`, and its status.
func TestQuit(t *testing.T) {
	in := lines("a b c")
	quits(t, "q", in, "a\n", 0)
	quits(t, "q 0", in, "a\n", 0)
	quits(t, "q1", in, "a\n", 1)
	quits(t, "2q 255", in, lines("a b"), 255)
	quits(t, "3q 7", in, in, 7)
	quits(t, "4q 7", in, in, 0)
	quits(t, "2!q 7", in, "a\n", 7)
	quits(t, "/c/{p;q 3\n}", in, lines("a b c c"), 3)
	quits(t, "2{q 3\nq 4\n};q5;q6", in, "a\n", 5)
	quits(t, "q 3\np", in, "a\n", 3)
	quits(t, "#n\nq 3", in, "", 3)
	quits(t, "q 3", "", "", 0)
	quits(t, "q 3", "a", "a\n", 3)
	quits(t, "s/a/x\\ny/;q 3", in, "x\ny\n", 3)
	// Over by a piece, or by the End.
	e := started(t, "q 3")
	if r := e.Feed("a"); r != (api.Reply{}) {
		t.Errorf("P8: Feed = %v", r)
	}
	if r := e.End(); r != (api.Reply{Out: "a\n", Over: true, Status: 3}) {
		t.Errorf("P8: End = %v", r)
	}
	if r := e.Feed("b\n"); r != (api.Reply{Over: true, Status: 3}) {
		t.Errorf("P8: Feed behind the end = %v", r)
	}
}

// writes holds the files against what must have been written to them when the editing is over.
func writes(t *testing.T, script, input string, want ...api.File) {
	t.Helper()
	whole, bytes := started(t, script), started(t, script)
	whole.Feed(input)
	whole.End()
	for i := range len(input) {
		bytes.Feed(input[i : i+1])
	}
	bytes.End()
	for _, e := range []*Editor{whole, bytes} {
		if got := e.Files(); !slices.Equal(got, want) {
			t.Errorf("P9: Files() of %.80q, %.80q: %.200q, want %.200q", script, input, got, want)
		}
	}
	// Nothing more is written behind the end.
	whole.Feed(input)
	whole.End()
	if got := whole.Files(); !slices.Equal(got, want) {
		t.Errorf("P9: Files() of %.80q, %.80q behind the end: %.200q, want %.200q", script, input, got, want)
	}
}

// P9: names in the order in which they stand in the script first, each once.
func TestFiles(t *testing.T) {
	in := lines("a b")
	writes(t, "p", in)
	writes(t, "", "")
	writes(t, "w f", "", api.File{Name: "f"})
	writes(t, "w f", in, api.File{Name: "f", Text: in})
	writes(t, "w f", "a\n\nb", api.File{Name: "f", Text: "a\n\nb\n"})
	writes(t, "wz\nwa\nw z", in, api.File{Name: "z", Text: lines("a a b b")}, api.File{Name: "a", Text: in})
	writes(t, "2w b\n1w a", in, api.File{Name: "b", Text: "b\n"}, api.File{Name: "a", Text: "a\n"})
	writes(t, "d;w no", in, api.File{Name: "no"})
	writes(t, "3{w no\n};s/x/y/w none\ns/b/x/w f", in, api.File{Name: "no"}, api.File{Name: "none"}, api.File{Name: "f", Text: "x\n"})
	writes(t, "s/a/x/w F\ns/b/y/w f\nw F", in, api.File{Name: "F", Text: lines("x x y")}, api.File{Name: "f", Text: "y\n"})
	writes(t, "s/a/\\n/w f\nw 1\nG;w 1", in, api.File{Name: "f", Text: "\n\n"}, api.File{Name: "1", Text: "\n\n\n\n\nb\nb\n\n"})
	writes(t, "q;w abcdefgh", in, api.File{Name: "abcdefgh"})
	writes(t, "#n\nw f\nq", in, api.File{Name: "f", Text: "a\n"})
	writes(t, "a w f\n# w g\n:w;s/w h/w i/;b w", "")
	many, want := "", []api.File{}
	for b := 'z'; b >= 'a'; b-- {
		many += "w " + string(b) + "\ns/a/b/w " + string(b) + string(b) + "\nw z\n"
		want = append(want, api.File{Name: string(b)}, api.File{Name: string(b) + string(b)})
	}
	writes(t, many, "", want...)
}

// P9: what was written so far; P2: in lists of their owner.
func TestFilesMeanwhile(t *testing.T) {
	e := started(t, "w f\n2w g")
	for _, c := range []struct{ in, f, g string }{{"", "", ""}, {"a", "", ""}, {"\n", "a\n", ""}, {"b\nc", "a\nb\n", "b\n"}} {
		e.Feed(c.in)
		want := []api.File{{Name: "f", Text: c.f}, {Name: "g", Text: c.g}}
		for range 2 {
			got := e.Files()
			if !slices.Equal(got, want) {
				t.Errorf("P9: behind %q: %q, want %q", c.in, got, want)
			}
			got[0], got[1] = api.File{Name: "x", Text: "y"}, api.File{}
			for i := range got[:cap(got)] {
				got[:cap(got)][i].Text = "spare"
			}
			_ = append(got, api.File{Name: "more"})
		}
	}
	kept := e.Files()
	e.End()
	if kept[0].Text != "a\nb\n" || e.Files()[0].Text != "a\nb\nc\n" {
		t.Errorf("P2: lists are not apart: %q, %q", kept, e.Files())
	}
}

// P2: editors of one program are apart, and of others too; P7: each is at the beginning.
func TestEditorsApart(t *testing.T) {
	p, _, _ := Compile("=;1,/x/s/a/b/w f\nH;x;/x/q 4")
	text := p.Text()
	want := func(e *Editor) {
		t.Helper()
		if r := e.Feed("a\nx"); r != (api.Reply{Out: "1\n\nb\n"}) {
			t.Errorf("P2: Feed = %v", r)
		}
		if f := e.Files(); !slices.Equal(f, []api.File{{Name: "f", Text: "b\n"}}) {
			t.Errorf("P2: Files = %v", f)
		}
		if r := e.End(); r != (api.Reply{Out: "2\nb\nx\n", Over: true, Status: 4}) {
			t.Errorf("P2: End = %v", r)
		}
	}
	first, second, third := p.Start(), p.Start(), p.Start()
	first.Feed("a")
	want(second)
	if r := first.Feed("\n"); r != (api.Reply{Out: "1\n\nb\n"}) {
		t.Errorf("P2: Feed = %v", r)
	}
	want(third)
	first.End()
	want(p.Start())
	if p.Text() != text {
		t.Errorf("P2: the program changed: %q", p.Text())
	}
	var all sync.WaitGroup
	for range 8 {
		all.Go(func() {
			for range 50 {
				want(p.Start())
			}
		})
	}
	all.Wait()
}

// P1: editors that no call gave do not panic either.
func TestNoEditor(t *testing.T) {
	var p *Program
	for _, e := range []*Editor{p.Start(), nil, {}} {
		if r := e.Feed("a\n"); r.Out != "" || r.Err != api.OK || r.Status != 0 {
			t.Errorf("P1: Feed = %v", r)
		}
		if r := e.End(); r.Out != "" || r.Err != api.OK || r.Status != 0 {
			t.Errorf("P1: End = %v", r)
		}
		if l := e.Files(); len(l) != 0 {
			t.Errorf("P1: Files = %v", l)
		}
	}
}
