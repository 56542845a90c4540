package ribbon

import (
	"slices"
	"strconv"
	"strings"
	"sync"
	"testing"

	"ribbon/api"
)

const none = -1

// refuses holds an answer that is an error against what is wanted (P1: nothing stands beside it but a place).
func refuses(t *testing.T, pattern, text string, err api.Errno, place int) {
	t.Helper()
	list, gotErr, gotPlace := Match(pattern, text)
	if gotErr != err || gotPlace != place || len(list) != 0 {
		t.Errorf("Match(%q, %d bytes) = %v, %d, %d, want error %d at %d", pattern, len(text), list, gotErr, gotPlace, err, place)
	}
}

// finds holds an answer without an error against what is wanted (P1: the place is 0 then).
func finds(t *testing.T, pattern, text string, want ...int) {
	t.Helper()
	list, err, place := Match(pattern, text)
	if err != api.OK || place != 0 || !slices.Equal(list, want) {
		t.Errorf("Match(%q, %q) = %v, %d, %d, want %v", pattern, text, list, err, place, want)
	}
}

func accepts(t *testing.T, pattern string) {
	t.Helper()
	if _, err, place := Match(pattern, ""); err != api.OK || place != 0 {
		t.Errorf("Match(%q) = %d, %d, want OK", pattern, err, place)
	}
}

// P3: ErrLong.
func TestTooLong(t *testing.T) {
	a := func(n int) string { return strings.Repeat("a", n) }
	finds(t, a(api.MaxPattern), a(api.MaxText), 0, api.MaxPattern)
	finds(t, "a*$", a(api.MaxText), 0, api.MaxText)
	refuses(t, a(api.MaxPattern+1), a(api.MaxText), api.ErrLong, 0)
	refuses(t, a(api.MaxPattern), a(api.MaxText+1), api.ErrLong, 0)
	refuses(t, a(api.MaxPattern+1), a(api.MaxText+1), api.ErrLong, 0)
	refuses(t, "", a(api.MaxText+1), api.ErrLong, 0)
	refuses(t, a(5000), "", api.ErrLong, 0)

	// It comes ahead of every other error.
	refuses(t, "a**", a(api.MaxText+1), api.ErrLong, 0)
	refuses(t, "(a{20}){20}", a(api.MaxText+1), api.ErrLong, 0)
	refuses(t, "*"+a(api.MaxPattern), "", api.ErrLong, 0)
	refuses(t, "(a{20}){20}"+a(api.MaxPattern), "", api.ErrLong, 0)
	refuses(t, a(api.MaxPattern)+"*", "", api.ErrLong, 0)
	refuses(t, a(api.MaxPattern-2)+"**", "", api.ErrPattern, api.MaxPattern-1)
}

// P3: ErrPattern, and its place.
func TestNoPattern(t *testing.T) {
	nine := strings.Repeat("(a)", api.MaxGroups)
	for _, c := range []struct {
		pattern string
		place   int
	}{
		// Groups and branches.
		{"(", 1}, {"(()", 3}, {"(a|", 3}, {"(a", 2}, {")", 0}, {"())", 2}, {"a|)", 2}, {"(a))(", 3},
		{nine + "(", 27}, {nine + "(a)", 27}, {nine + "x()*", 28}, {strings.Repeat("(", 10), 9}, {strings.Repeat("(", 9), 9},
		{"(a){0}" + nine, 30},

		// Bytes that may not stand there.
		{"]", 0}, {"}", 0}, {"a]", 1}, {"a}b", 1}, {"\n", 0}, {"ab\n", 2}, {"(\n)", 1},
		{"\\", 1}, {"a\\", 2}, {"\\a", 1}, {"\\0", 1}, {"\\-", 1}, {"\\ ", 1}, {"\\\n", 1}, {"\\&", 1}, {"(\\", 2},

		// Repeats where none may be.
		{"*", 0}, {"+", 0}, {"?", 0}, {"{2}", 0}, {"{", 0}, {"a|*", 2}, {"(*a)", 1}, {"(+)", 1}, {"|?", 1},
		{"a**", 2}, {"a*+", 2}, {"a+?", 2}, {"a??", 2}, {"a*{2}", 2}, {"a{2}*", 4}, {"a{2}{3}", 4}, {"a{2}{", 4},
		{"^*", 1}, {"$*", 1}, {"^+", 1}, {"$?", 1}, {"^{2}", 1}, {"${", 1}, {"a^*", 2}, {"(^)**", 4},

		// Bounds.
		{"a{", 2}, {"a{}", 2}, {"a{,", 2}, {"a{,2}", 2}, {"a{ 1}", 2}, {"a{-1}", 2}, {"a{1", 3}, {"a{1 }", 3}, {"a{1,", 4}, {"a{1,,", 4},
		{"a{1,x", 4}, {"a{1,2", 5}, {"a{1,2,", 5}, {"a{1,2x", 5}, {"a{20", 4}, {"a{21", 3}, {"a{21}", 3}, {"a{30}", 3}, {"a{99}", 3},
		{"a{1,21}", 5}, {"a{1,30", 5}, {"a{000}", 4}, {"a{012}", 4}, {"a{200}", 4}, {"a{1,020}", 6}, {"a{1,200}", 6},
		{"a{2,1}", 4}, {"a{2,1x", 4}, {"a{2,1,", 4}, {"a{2,1", 5}, {"a{2,01}", 5}, {"a{12,11}", 6}, {"a{20,19}", 6}, {"a{12,11", 7},
		{"a{12,011}", 7}, {"a{2,0}", 4}, {"a{01,00}", 6}, {"a{12,35}", 6},

		// Classes.
		{"[", 1}, {"[]", 1}, {"[]a]", 1}, {"[^", 2}, {"[^]", 2}, {"[^]a]", 2}, {"[a", 2}, {"[^a", 3}, {"[-", 1}, {"[-a]", 1}, {"[^-a]", 2},
		{"[a-", 3}, {"[a-]", 3}, {"[a--]", 3}, {"[a-[]", 3}, {"[a-[:digit:]]", 3}, {"[a-b-c]", 4}, {"[a-\n]", 3}, {"[\n]", 1}, {"[a\n]", 2},
		{"[b-a]", 3}, {"[b-a", 3}, {"[9-0]", 3}, {"[\xff-\xfe]", 3}, {"[z-\\^]", 3}, {"[a-\\n]", 3}, {"[\\]-\\[]", 4}, {"[\\n-\\t]", 4}, {"[xb-a]", 4},
		{"[\\", 2}, {"[\\a]", 2}, {"[\\.]", 2}, {"[\\\n]", 2}, {"[A-\\", 4}, {"[A-\\a]", 4}, {"[a]]", 3}, {"[a]**", 4},

		// Names.
		{"[[", 2}, {"[[a]", 2}, {"[[]", 2}, {"[[:", 3}, {"[[::]]", 3}, {"[[:x", 3}, {"[[:Alpha:]]", 3}, {"[[:a", 4}, {"[[:ax", 4}, {"[[:al", 5},
		{"[[:alx", 5}, {"[[:aln", 6}, {"[[:alpx", 6}, {"[[:alpha", 8}, {"[[:alpha]", 8}, {"[[:alphab", 8}, {"[[:alpha:", 9}, {"[[:alpha::", 9},
		{"[[:alpha:]", 10}, {"[[:alpha:]-z]", 10}, {"[[:word:]]", 3}, {"[[:upper:][:lowex", 16}, {"[[:^alpha:]]", 3}, {"[[:space :]]", 8},
		{"[[:puncT", 7}, {"[[:digits", 8},
	} {
		refuses(t, c.pattern, "", api.ErrPattern, c.place)
		// As the beginning of a branch it is the same, whatever the text.
		refuses(t, "x|"+c.pattern, "xyz", api.ErrPattern, c.place+2)
	}
}

// P3: what is no error.
func TestPattern(t *testing.T) {
	for _, pattern := range []string{
		"", "|", "||", "()", "(|)", "(())", "()*", "(^)*", "($)?", "^", "$", "^^", "$^", "a^b", "a$b", "^|$",
		"a{0}", "a{00}", "a{20}", "a{0,0}", "a{0,20}", "a{20,20}", "a{20,}", "a{09,10}", "a{1,01}", "(a{20}){0}",
		"[^^]", "[a^]", "[a^^]", "[\\^]", "[a-a]", "[+-\\-]", "[!-\\-]", "[\\--a]", "[\\n-a]", "[\\t-\\n]", "[\\[-\\]]",
		"[|*+?{}().$]", "[:alpha:]", "[[:alpha:][:alpha:]]", "[a[:digit:]b]", "[[:punct:]a-z]",
		"\\\\\\|\\*\\+\\?\\{\\}\\(\\)\\.\\^\\$\\[\\]\\/\\n\\t", "[\\\\\\[\\]\\-\\^\\/\\n\\t]", "-,/:&=!#;", "\x00\xff\r\t ",
		strings.Repeat("(", 9) + strings.Repeat(")", 9),
	} {
		accepts(t, pattern)
	}
}

// completions tells what may be put behind the beginning of a pattern to make it whole.
func completions(beginning string) []string {
	closing := strings.Repeat(")", strings.Count(beginning, "("))
	var all []string
	for _, end := range []string{"", "}", "1}", "2}", ",}", "]", "A]", "A]]", "~]", "\\]", "-\\]", "^]", "\\", ":alpha:]]", "alpha:]]", "]]"} {
		for i := range len(closing) + 1 {
			all = append(all, end+closing[i:])
		}
	}
	return all
}

func completable(beginning string) bool {
	for _, end := range completions(beginning) {
		if _, err, _ := Match(beginning+end, ""); err == api.OK || err == api.ErrSize {
			return true
		}
	}
	return false
}

// everyText goes over all texts of these bytes, up to a length.
func everyText(bytes string, length int, do func(text string)) {
	do("")
	if length == 0 {
		return
	}
	everyText(bytes, length-1, func(text string) {
		if len(text) == length-1 {
			for i := range len(bytes) {
				do(text + bytes[i:i+1])
			}
		} else if text != "" {
			do(text)
		}
	})
}

// P3: with the bytes ahead of the place a PATTERN begins, with the one at the place too none does.
func TestPlaceIsTheFirst(t *testing.T) {
	known := map[string]int{}
	begins := func(text string) bool {
		if known[text] == 0 {
			known[text] = 1
			if completable(text) {
				known[text] = 2
			}
		}
		return known[text] == 2
	}
	refused := 0
	check := func(text string) {
		_, err, place := Match(text, "")
		if err != api.ErrPattern {
			return
		}
		refused++
		if place > len(text) || !begins(text[:place]) {
			t.Fatalf("Match(%q): %d, but no PATTERN begins there any more", text, place)
		}
		// Whether n is below m, or what a backslash stands for below the first byte, only the next byte tells.
		early := place < len(text) && (text[place] == '\\' || text[place] <= '9' && strings.Contains(text[:place], ","))
		if place < len(text) && !early && begins(text[:place+1]) {
			t.Fatalf("Match(%q): %d, but a PATTERN begins there still", text, place)
		}
	}
	everyText("A|()*{}12,^", 5, check)
	everyText("A[]^-:\\/", 5, check)
	if refused < 100000 {
		t.Errorf("only %d were refused", refused)
	}
}

// filler is a pattern of a size.
func filler(size int) string {
	var all strings.Builder
	for ; size > api.MaxRepeat; size -= api.MaxRepeat {
		all.WriteString("x{20}")
	}
	return all.String() + "x{" + strconv.Itoa(size) + "}"
}

// P3: ErrSize.
func TestSize(t *testing.T) {
	for _, c := range []struct {
		pattern string
		size    int
	}{
		{"", 0}, {"|", 1}, {"||", 2}, {"a", 1}, {"abc", 3}, {"a|bc", 4}, {".", 1}, {"^", 1}, {"$", 1}, {"[a-z]", 1}, {"[[:alpha:]0-9_]", 1}, {"\\n", 1},
		{"()", 2}, {"(a)", 3}, {"(|)", 3}, {"((a)b)", 6}, {"a*", 2}, {"a?", 2}, {"a+", 3}, {"(ab)*", 5}, {"(ab)?", 5}, {"(ab)+", 9},
		{"a{0}", 0}, {"a{1}", 1}, {"a{7}", 7}, {"(ab){3}", 12}, {"a{0,}", 2}, {"a{1,}", 3}, {"a{3,}", 5}, {"(ab){2,}", 13},
		{"a{0,0}", 0}, {"a{0,1}", 2}, {"a{2,5}", 8}, {"a{5,5}", 5}, {"(ab){1,3}", 14}, {"(a*){2,4}", 18}, {"((a+)+)+", 27}, {"(a{20}){13}", 286},
		{"((a{20}){20}){0}", 0}, {"((a{20}){20}){0,0}", 0},
	} {
		accepts(t, c.pattern+filler(api.MaxSize-c.size))
		whole := c.pattern + filler(api.MaxSize+1-c.size)
		refuses(t, whole, "", api.ErrSize, len(whole))
	}
	accepts(t, "(a{18}){15}")
	huge := strings.Repeat("(", 9) + "a{20}" + strings.Repeat("){20}", 9)
	refuses(t, huge, "", api.ErrSize, len(huge))
	huge = strings.Repeat("(", 9) + "a{20,}" + strings.Repeat("){20,}", 9)
	refuses(t, huge, "", api.ErrSize, len(huge))

	// It comes behind ErrPattern.
	refuses(t, "(a{20}){20}(", "", api.ErrPattern, 12)
	refuses(t, "(a{20}){20}*", "", api.ErrPattern, 11)
}

// P4: from where to where.
func TestFound(t *testing.T) {
	finds(t, "", "", 0, 0)
	finds(t, "", "ab", 0, 0)
	finds(t, "|", "ab", 0, 0)
	finds(t, "a|", "ba", 0, 0)
	finds(t, "|a", "ab", 0, 1)
	finds(t, "a", "")
	finds(t, "a", "bcd")
	finds(t, "(a)", "bcd")
	finds(t, "a", "bcaa", 2, 3)
	finds(t, "abc", "ababcab", 2, 5)

	// The first place is ahead of a longer way, a longer way of one that comes first.
	finds(t, "b|aaa", "baaa", 0, 1)
	finds(t, "a|ab|abc", "xabcd", 1, 4)
	finds(t, "bcd|abcde|c", "abcd", 1, 4)
	finds(t, "abcde|bc|c", "abcd", 1, 3)
	finds(t, "abcx|b|bc", "abcd", 1, 3)
	finds(t, "a+|a*b", "caaab", 1, 5)
	finds(t, "a*", "baaa", 0, 0)
	finds(t, "aab|a", "aaab", 0, 1)

	finds(t, "^a", "ba")
	finds(t, "^", "ba", 0, 0)
	finds(t, "$", "ba", 2, 2)
	finds(t, "^$", "", 0, 0)
	finds(t, "^$", "a")
	finds(t, "a^b", "ab")
	finds(t, "a$b", "ab")
	finds(t, "^^a$$", "a", 0, 1)
	finds(t, "^b", "a\nb")
	finds(t, "a$", "a\nb")
	finds(t, "(^|b)a", "aba", 0, 1, 0, 0)
	finds(t, "a(b|$)", "aca", 2, 3, 3, 3)
	finds(t, "(^a)*", "aa", 0, 1, 0, 1)

	finds(t, ".", "\n", 0, 1)
	finds(t, ".", "\x00", 0, 1)
	finds(t, "..", "\xc3\xa9", 0, 2)
	finds(t, ".", "")
	finds(t, "\xa9", "\xc3\xa9", 1, 2)
}

// P4: repeats.
func TestRepeats(t *testing.T) {
	finds(t, "ba*", "bac", 0, 2)
	finds(t, "a+", "bcaad", 2, 4)
	finds(t, "a+", "b")
	finds(t, "ba?c", "baacbac", 4, 7)
	finds(t, "a{0}", "aa", 0, 0)
	finds(t, "ba{0}", "baa", 0, 1)
	finds(t, "a{2}", "abaaa", 2, 4)
	finds(t, "a{02}", "abaaa", 2, 4)
	finds(t, "a{2,}", "abaaaa", 2, 6)
	finds(t, "a{0,}", "aab", 0, 2)
	finds(t, "a{2,3}", "abaaaa", 2, 5)
	finds(t, "ba{0,2}", "baaa", 0, 3)
	finds(t, "a{20}", strings.Repeat("a", 19))
	finds(t, "a{20}", strings.Repeat("a", 21), 0, 20)
	finds(t, "a{19,20}", strings.Repeat("a", 21), 0, 20)
	finds(t, "(ab){2}", "ababab", 0, 4, 2, 4)
	finds(t, "ab*", "abbabb", 0, 3)
	finds(t, "(a|ab){2}", "aba", 0, 3, 2, 3)
}

// P4: the bytes of a class are just those.
func TestClasses(t *testing.T) {
	within := func(spans string, b int) bool {
		for i := 0; i < len(spans); i += 2 {
			if int(spans[i]) <= b && b <= int(spans[i+1]) {
				return true
			}
		}
		return false
	}
	for _, c := range []struct{ items, spans string }{
		{"a", "aa"}, {"abc", "ac"}, {"a-c", "ac"}, {"a-a", "aa"}, {"a-cx-z0", "acxz00"}, {"a^", "aa^^"}, {"\\^", "^^"}, {"\\\\", "\\\\"},
		{"\\[\\]\\-\\/", "[[]]--//"}, {"\\n", "\n\n"}, {"\\t", "\t\t"}, {"\\t-\\n", "\t\n"}, {"!-\\-", "!-"}, {"\\[-\\]", "[]"}, {"+-/", "+/"},
		{"\x00-\xff", "\x00\xff"}, {"\xff", "\xff\xff"}, {"\x80-\xff", "\x80\xff"}, {".*$|(){}+?", "..**$$||(){{}}++??"}, {":a:", "::aa"},
		{"[:alpha:]", "AZaz"}, {"[:digit:]", "09"}, {"[:alnum:]", "AZaz09"}, {"[:upper:]", "AZ"}, {"[:lower:]", "az"},
		{"[:space:]", "\x09\x0d\x20\x20"}, {"[:punct:]", "\x21\x2f\x3a\x40\x5b\x60\x7b\x7e"},
		{"[:digit:]a-f[:space:]_", "09af\x09\x0d  __"},
	} {
		for b := range 256 {
			text := string([]byte{byte(b)})
			plain, other := []int{0, 1}, []int(nil)
			if !within(c.spans, b) {
				plain, other = other, plain
			}
			finds(t, "["+c.items+"]", text, plain...)
			finds(t, "[^"+c.items+"]", text, other...)
		}
	}
	finds(t, "[^a]", "")
	finds(t, "[^^]", "^a", 1, 2)
	finds(t, "[^a^]", "^a")
	finds(t, "[[:upper:]]+", "abCDe", 2, 4)
}

// P4: a byte, or a backslash and a byte, stands for one byte alone.
func TestBytes(t *testing.T) {
	all := ""
	for b := range 256 {
		all += string([]byte{byte(b)})
	}
	for b := range 256 {
		if b != '\n' && !strings.ContainsRune("\\|*+?{}().^$[]", rune(b)) {
			finds(t, all[b:b+1], all, b, b+1)
		}
	}
	for _, b := range []byte("\\|*+?{}().^$[]/") {
		finds(t, "\\"+string(b), all, int(b), int(b)+1)
	}
	finds(t, "\\n", all, 10, 11)
	finds(t, "\\t", all, 9, 10)
}

// P4: groups, and what they noted last.
func TestGroups(t *testing.T) {
	finds(t, "a(b|bc)c?", "xabcd", 1, 4, 2, 3)
	finds(t, "(a)(b)", "xab", 1, 3, 1, 2, 2, 3)
	finds(t, "((a)(b))", "ab", 0, 2, 0, 2, 0, 1, 1, 2)
	finds(t, "()", "ab", 0, 0, 0, 0)
	finds(t, "b()", "ab", 1, 2, 2, 2)

	// Of ways to the same place the first one tells.
	finds(t, "(a|ab)(bc|c)", "abc", 0, 3, 0, 1, 1, 3)
	finds(t, "(ab|a)(bc|c)", "abc", 0, 3, 0, 2, 2, 3)
	finds(t, "(a?)(a?)", "a", 0, 1, 0, 1, 1, 1)
	finds(t, "(|a)(a?)", "a", 0, 1, 0, 0, 0, 1)
	finds(t, "(a*)(a+)", "aaa", 0, 3, 0, 2, 2, 3)
	finds(t, "(a|aa){1,2}", "aaa", 0, 3, 1, 3)
	finds(t, "(aa|a){1,3}", "aaa", 0, 3, 2, 3)
	finds(t, "(a)|(a)", "a", 0, 1, 0, 1, none, none)
	finds(t, "(a)|(b)", "b", 0, 1, none, none, 0, 1)
	// The longest comes ahead of the first way.
	finds(t, "(a)|(ab)", "ab", 0, 2, none, none, 0, 2)
	finds(t, "(a|ab)(c|bcd)(d*)", "abcd", 0, 4, 0, 1, 1, 4, 4, 4)

	// A group that was not gone through noted nothing.
	finds(t, "(a)?b", "b", 0, 1, none, none)
	finds(t, "(a)*b", "b", 0, 1, none, none)
	finds(t, "(a){0}b", "ab", 1, 2, none, none)
	finds(t, "((a{20}){20}){0}b", "ab", 1, 2, none, none, none, none)
	finds(t, "(a){0,0}(b)", "ab", 1, 2, none, none, 1, 2)
	finds(t, "(a(b)?)+", "abab", 0, 4, 2, 4, 3, 4)

	// What a group noted is forgotten only by what it notes anew.
	finds(t, "(a(b)?)+", "aba", 0, 3, 2, 3, 1, 2)
	finds(t, "((a)|(b))*", "ab", 0, 2, 1, 2, 0, 1, 1, 2)
	finds(t, "((a)|b){3}", "abb", 0, 3, 2, 3, 0, 1)
	finds(t, "(a|(b))*c", "bac", 0, 3, 1, 2, 0, 1)
	finds(t, "(a)*", "aaa", 0, 3, 2, 3)
	finds(t, "(a){3}", "aaa", 0, 3, 2, 3)
	finds(t, strings.Repeat("(", 9)+"a"+strings.Repeat(")", 9), "ba", 1, 2, 1, 2, 1, 2, 1, 2, 1, 2, 1, 2, 1, 2, 1, 2, 1, 2, 1, 2)
}

// P4: rows that take no byte.
func TestNothingTaken(t *testing.T) {
	finds(t, "(a*)*", "b", 0, 0, none, none)
	finds(t, "(a*)*", "", 0, 0, none, none)
	finds(t, "(a*)*", "aa", 0, 2, 0, 2)
	finds(t, "(a*)+", "b", 0, 0, 0, 0)
	finds(t, "(a*)+", "aa", 0, 2, 0, 2)
	finds(t, "(a?)?", "b", 0, 0, 0, 0)
	finds(t, "(a?){3}", "", 0, 0, 0, 0)
	finds(t, "(a?){3}", "aa", 0, 2, 2, 2)
	finds(t, "(a?){0,3}", "aa", 0, 2, 2, 2)
	finds(t, "(a?){1,}", "aa", 0, 2, 1, 2)
	finds(t, "()*", "a", 0, 0, none, none)
	finds(t, "()+", "a", 0, 0, 0, 0)
	finds(t, "()?", "a", 0, 0, 0, 0)
	finds(t, "()*a", "a", 0, 1, none, none)
	finds(t, "(^)*a", "a", 0, 1, none, none)
	finds(t, "(^)+a", "a", 0, 1, 0, 0)
	finds(t, "(|a)*", "aa", 0, 2, 1, 2)
	finds(t, "(|a)+", "aa", 0, 2, 1, 2)
	finds(t, "(()|a)*b", "aab", 0, 3, 1, 2, none, none)
	// An inner turn that took a byte lets the outer one go round; one that took none does not.
	finds(t, "((a*)*)*", "aa", 0, 2, 0, 2, 0, 2)
	finds(t, "((a*)*b?)*", "aba", 0, 3, 2, 3, 2, 3)
	finds(t, "((a*)(b*))*", "ba", 0, 2, 1, 2, 1, 2, 2, 2)
	finds(t, "((a*)+|b)*", "ba", 0, 2, 1, 2, 1, 2)
	finds(t, "((a|b*)*c)*", "abcc", 0, 4, 3, 4, 1, 2)
	// What a turn has taken ahead of an inner row counts for it, and not for the row's own turns.
	finds(t, "(a(b?)*)*", "aab", 0, 3, 1, 3, 2, 3)
	finds(t, "(a(|b)*)*", "aba", 0, 3, 2, 3, 1, 2)
}

// P1: it ends, and soon, however many ways there are.
func TestManyWays(t *testing.T) {
	text := strings.Repeat("a", api.MaxText)
	nested := strings.Repeat("(", 9) + "a*" + strings.Repeat(")*", 9)
	want := []int{0, api.MaxText}
	for range 9 {
		want = append(want, 0, api.MaxText)
	}
	finds(t, nested, text, want...)
	finds(t, nested+"b", text)
	finds(t, "(a*)*(a*)*(a*)*b", text)
	finds(t, "((a|aa|aaa)+){12}b", text)
	finds(t, "(((a?){5}){5}){2}b", text)
	finds(t, "(.*)(.*)(.*)(.*)(.*)(.*)(.*)(.*)(.*)b", text)
}

// P1: no text of any bytes makes it panic, and with an error there is a place and nothing else.
func TestAllBytes(t *testing.T) {
	check := func(pattern, text string) {
		list, err, place := Match(pattern, text)
		switch err {
		case api.OK:
			if place != 0 {
				t.Fatalf("Match(%q, %q): OK, and the place %d", pattern, text, place)
			}
		case api.ErrPattern:
			if len(list) != 0 || place < 0 || place > len(pattern) {
				t.Fatalf("Match(%q, %q) = %v, %d, %d", pattern, text, list, err, place)
			}
		default:
			t.Fatalf("Match(%q, %q): the error %d", pattern, text, err)
		}
	}
	for first := range 256 {
		for second := range 256 {
			pair := string([]byte{byte(first), byte(second)})
			check(pair, pair)
			check("["+pair, pair)
			check("a{1"+pair, "aaa")
		}
	}
}

// P2: a list is new memory, its spare room too.
func TestNewMemory(t *testing.T) {
	one, _, _ := Match("(a)(b)?", "a")
	other, _, _ := Match("(a)(b)?", "a")
	want := []int{0, 1, 0, 1, none, none}
	one = one[:cap(one)]
	for i := range one {
		one[i] = 77
	}
	_ = append(one[:2], 5, 5, 5, 5)
	if !slices.Equal(other, want) {
		t.Errorf("a list changed with another one: %v", other)
	}
	finds(t, "(a)(b)?", "a", want...)
}

// P2: calls are apart, at the same time too.
func TestApart(t *testing.T) {
	var group sync.WaitGroup
	for i := range 8 {
		group.Add(1)
		go func() {
			defer group.Done()
			text := strings.Repeat("b", i) + "aab"
			for range 200 {
				list, err, _ := Match("(a+)(b)", text)
				if err != api.OK || !slices.Equal(list, []int{i, i + 3, i, i + 2, i + 2, i + 3}) {
					t.Errorf("in %q: %v, %d", text, list, err)
				}
				if _, err, place := Match("a**", text); err != api.ErrPattern || place != 2 {
					t.Errorf("a**: %d, %d", err, place)
				}
			}
		}()
	}
	group.Wait()
}
