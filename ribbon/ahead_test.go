package ribbon

import (
	"strings"
	"testing"

	"ribbon/api"
)

// overLines holds a script against what it tells of words, each in a line, with and without a newline behind the last one.
func overLines(t *testing.T, script, words, out string) {
	t.Helper()
	if p, _, _ := Compile(script); !p.Ahead() {
		t.Errorf("P6: Ahead of %q is false", script)
	}
	want := strings.Join(append(strings.Fields(out), ""), "\n")
	edits(t, script, lines(words), want)
	edits(t, script, strings.TrimSuffix(lines(words), "\n"), want)
}

// `$`: alone, as either end of a range, with `!`.
func TestLastLine(t *testing.T) {
	in := lines("a b ab c abc")
	for _, c := range []struct{ address, out string }{
		{"$", "abc"}, {"$,$", "abc"}, {"$,1", "abc"}, {"$,5", "abc"}, {"$,9", "abc"}, {"$,/a/", "abc"}, {"$,/x/", "abc"}, {"$,//", "abc"},
		{"1,$", "a b ab c abc"}, {"2,$", "b ab c abc"}, {"4,$", "c abc"}, {"5,$", "abc"}, {"6,$", ""}, {"1000000,$", ""},
		{"/b/,$", "b ab c abc"}, {"/c/,$", "c abc"}, {"/abc/,$", "abc"}, {"/x/,$", ""}, {"//,$", "a b ab c abc"},
	} {
		chooses(t, c.address, in, c.out)
		chooses(t, c.address, strings.TrimSuffix(in, "\n"), c.out)
	}
	// The only line, an empty one, and none.
	edits(t, "$=", "a", "1\na\n")
	edits(t, "$=", "a\n", "1\na\n")
	edits(t, "$=", "\n", "1\n\n")
	edits(t, "$=", "\n\n", "\n2\n\n")
	edits(t, "$=", "a\n\n", "a\n2\n\n")
	edits(t, "$=", "\na", "\n2\na\n")
	edits(t, "$=;$!=", "", "")
	edits(t, "$!=", "a\n\n\n", "1\na\n2\n\n\n")
	edits(t, "1,$=", "a", "1\na\n")
	edits(t, "$!d;s/$/./", "\x00\r\n\xff", "\xff.\n")
}

// `$` says at three lines what a 3 says, for each command, and in blocks.
func TestLastLineByNumber(t *testing.T) {
	in := lines("a b c")
	for _, what := range []string{"{p;=\n}", "b", "bx", "t", "tx", "a x", "i x", "c x", "s/./x/", "s/./x/gpw f", "y/abc/bca/", "d", "D", "g", "G", "h", "H", "x", "p", "P", "l", "=", "q", "q 7", "w f"} {
		for _, where := range []string{"$", "$!", "$ ! ", "1,$", "1,$!", "$,1", "$,1!", "$,$", "2,$", "2,$!", "/b/,$", "/c/,$", "/b/,$!", "$,/b/", "$,/b/!"} {
			number := strings.ReplaceAll(strings.ReplaceAll(where, "$,", "3,"), ",$", ",/c/")
			number = strings.ReplaceAll(number, "$", "3")
			for _, around := range []string{"", "1,9", "2,3", "2!", "/c/", "$", "$!", "1,$", "2,$!"} {
				script := "s/a/A/\n%{\nH;x;x;" + where + what + "\n};s/$/./\n:x"
				plain := strings.NewReplacer(where+what, number+what).Replace(script)
				known := strings.ReplaceAll(strings.ReplaceAll(around, ",$", ",/c/"), "$", "3")
				p, err, place := Compile(strings.ReplaceAll(script, "%", around))
				other, _, _ := Compile(strings.ReplaceAll(plain, "%", known))
				if err != api.OK || !p.Ahead() || other.Ahead() {
					t.Fatalf("P5: %q, %q: %d, %d", script, around, err, place)
				}
				want := goneOver(other, []string{in})
				for _, input := range []string{in, strings.TrimSuffix(in, "\n")} {
					for _, pieces := range [][]string{{input}, strings.Split(input, ""), {input[:2], input[2:]}, {input[:3], input[3:4], input[4:]}} {
						if got := goneOver(p, pieces); !got.is(want) {
							t.Errorf("P8: %q fed with %q: %v, want %v as by %q", p.Text(), pieces, got, want, other.Text())
						}
					}
				}
			}
		}
	}
}

// `$` within blocks, and together with all else.
func TestLastLineInScripts(t *testing.T) {
	for _, c := range []struct{ script, words, out string }{
		{"$!{h;d};x;G", "a b", "a b"}, {"$!{h;d};x;G", "a b c", "b c"}, {"$!{h;d};x;s/^/x/;G", "a", "x a"},
		{"1!G;h;$!d", "a b c", "c b a"}, {"$!{$!{d}}", "a b c", "c"}, {"{${p}}", "a b", "a b b"}, {"${$!p;p}", "a b", "a b b"}, {"2,3{$d}", "a b c", "a b"}, {"2{$d}", "a b c", "a b c"}, {"2{$!d}", "a b c", "a c"}, {"${};$!{}", "a b", "a b"}, {"${p;=};$!{i x\n}", "a b", "x a b 2 b"}, {"1,2{$!{=\n}\n}", "a b", "1 a b"},
		{"$a end", "a b", "a b end"}, {"$i end", "a b", "a end b"}, {"$c end", "a b", "a end"}, {"$!c x", "a b c", "x x c"}, {"2,$c x", "a b c", "a x"}, {"2,$!c x", "a b c", "x b c"}, {"$,1c x", "a b c", "a b x"}, {"$,9c x", "a b c", "a b"}, {"3,$c x", "a b c", "a b"}, {"$,/x/c x", "a b c", "a b"}, {"1,2c x\n$!d", "a b c", "x c"},
		{"$!d;=", "a b c", "3 c"}, {"$!b\ns/^/x/", "a b", "a xb"}, {"$be;d;:e", "a b", "b"}, {":a;s/a/x/;$ta", "aa aa", "xa xx"},
		{"H;$!d;x;s/\\n/,/g", "a b c", ",a,b,c"}, {"$s/^b/x\\nc/;P;D", "a b", "a x c"},
		// A cycle without a line: the line that was read last is the last one all the same.
		{"s/,/\\n/;$!P;D", "a,b c,d", "a b"}, {"s/,/\\n/;$P;D", "a,b c,d", "c d"}, {"$=;s/,/\\n/;D", "a,b c,d", "2 2"},
		// A range that is looked at more than once at the last line.
		{"s/,/\\n/;2,$P;D", "a,b c,d", "c d"}, {"s/,/\\n/g;/^c/,$P;D", "a,b c,d,e", "c d"}, {"s/,/\\n/g;$,$P;D", "a,b c,d,e,f", "c d e f"},
	} {
		overLines(t, c.script, c.words, c.out)
	}
	quits(t, "$q 3", lines("a b"), lines("a b"), 3)
	quits(t, "$!q 4", lines("a b"), "a\n", 4)
	quits(t, "$!q 4", "a\n", "a\n", 0)
	quits(t, "$!d;q 5", "a\nb", "b\n", 5)
	quits(t, "#n\n$!{p;d\n};q 255", "a\nb\n", "a\n", 255)
	quits(t, "$!d;q 5", "", "", 0)
}

// `n`: alone, one behind the other, in blocks, in ranges, and behind and ahead of others.
func TestNextLine(t *testing.T) {
	for _, c := range []struct{ script, words, out string }{
		{"n", "a b c", "a b c"}, {"n", "a", "a"}, {"n;d", "a b c d e", "a c e"}, {"n;d", "a b c d", "a c"}, {"d;n", "a b", ""}, {"n;s/^/x/", "a b c", "a xb c"}, {"n;=", "a b c d", "a 2 b c 4 d"}, {"=;n;=", "a b c", "1 a 2 b 3 c"}, {"n;p", "a b c", "a b b c"}, {"n;c x", "a b c", "a x c"}, {"n;2s/^/x/;1s/^/y/", "a b c", "a xb c"},
		{"n;n", "a b c d", "a b c d"}, {"n;n;s/^/x/", "a b c d e f", "a b xc d e xf"}, {"n;n;d", "a b c d e", "a b d e"}, {"n;n;n;n;d", "a b c d e f", "a b c d f"}, {"n;s/^/x/;n;s/^/y/", "a b c d e", "a xb yc d xe"}, {"n;n;n", "a b", "a b"},
		{"{n}", "a b c", "a b c"}, {"{n;n};d", "a b c d e", "a b d e"}, {"2{n;d}", "a b c d", "a b d"}, {"1!{n;{d}}", "a b c d e", "a b d"}, {"{{n};{n}};s/^/x/", "a b c d", "a b xc d"}, {"/b/{n;s/^/x/;n};s/^/y/", "a b c d e", "ya b xc yd ye"}, {"2{n;n;n;d}", "a b c", "a b c"},
		{"2n;s/^/x/", "a b c d", "xa b xc xd"}, {"2!n;s/^/x/", "a b c d", "a xb c xd"}, {"/b/n;d", "a b c d", "b"}, {"$n;s/^/x/", "a b", "xa b"}, {"$!n;s/^/x/", "a b c", "a xb xc"}, {"$!n;$d", "a b c d", "a b c"}, {"$!{n;$!{s/^/x/\n}\n}", "a b c d", "a xb c d"}, {"n;$d", "a b c", "a b c"}, {"n;$d", "a b c d", "a b c"}, {"$p;n;$p", "a b c", "a b c c"}, {"$p;n;$p", "a b", "a b b"},
		{"/b/,/d/n;s/^/x/", "a b c d e", "xa b xc d xe"}, {"/b/,/c/n;s/^/x/", "a b c d e f c g", "xa b xc d xe f xc g"}, {"2,3n;=", "a b c d e", "1 a b 3 c d 5 e"}, {"2,3{n;=;d}", "a b c d e f", "a b 3 d 5 f"}, {"n;2,3s/^/x/", "a b c d e f", "a xb c xd e f"}, {"2,$n;s/^/x/", "a b c d", "xa b xc d"}, {"$!{1,2n;s/^/x/\n}", "a b c d", "a xb c xd"}, {"1,$!n;d", "a b", ""},
		{"a x\nn;s/$/!/", "a b c", "a x b! c x"}, {"a x\na y\nn;a z", "a b c", "a x y b z c x y"}, {"a x\nn;n", "a b c", "a x b c"}, {"a x\nn;a y\nn;d", "a b c", "a x b y"}, {"n;a x", "a b c", "a b x c"}, {"a x\n$!n;p", "a b", "a x b b"}, {"1a x\nn", "a b c", "a x b c"},
		{"i x\nn", "a b c", "x a b x c"}, {"i x\na y\nn;i z\na w", "a b", "x a y z b w"}, {"p;n", "a b", "a a b"}, {"l;n;l", "a b", "a$ a b$ b"},
		{"s/a/z/;n", "a b", "z b"}, {"s/a/z/;n;t\ns/$/!/", "a b c d", "z b c d!"}, {"s/a/z/;n;t e\nd;:e;s/^/!/", "a b c d", "z !b c"}, {"s/a/z/;t e\n:e;n;t\ns/$/!/", "a b", "z b!"}, {"n;s/b/z/;t\ns/$/!/", "a b c d", "a z c d!"}, {"1{s/a/z/;n\n};2t\ns/$/!/", "a b c", "z b c!"},
		{"h;n;G", "a b c", "a b a c"}, {"n;x;s/^$/e/;G", "a b c d", "a e b c b d"}, {"y/ab/ba/;n;y/ab/ba/", "a b c", "b a c"},
		{"b e\nn;d;:e", "a b", "a b"}, {"n;b\nd", "a b c", "a b c"}, {":a;n;ba", "a b c d", "a b c d"}, {":a;n;s/^/x/;/d/!ba", "a b c d e f", "a xb xc xd e xf"}, {":a;$!{n;ba\n};s/^/x/", "a b c", "a b xc"},
		// Together with `D`.
		{"n;D", "a b c d e", "a c e"}, {"/,/!n;s/,/\\n/;P;D", "a b,c d", "a b c d"}, {"s/,/\\n/;P;n;D", "a,b c,d e", "a a b e e"}, {"N;n;D", "a b c d e", "a b d e"}, {"n;N;P;D", "a b c d e", "a b c d e"}, {"/^x/!s/$/\\nx/;n;D", "a b c", "a x c x"},
	} {
		overLines(t, c.script, c.words, c.out)
	}
}

// `N`, likewise.
func TestNextLineBehind(t *testing.T) {
	for _, c := range []struct{ script, words, out string }{
		{"N", "a b c", "a b c"}, {"N", "a", "a"}, {"N;s/\\n/+/", "a b c", "a+b c"}, {"N;s/\\n/+/", "a b c d", "a+b c+d"}, {"d;N", "a b", ""}, {"N;d", "a b c", "c"}, {"N;l;d", "a b c", "a\\nb$ c"}, {"N;=", "a b c", "2 a b c"}, {"N;P", "a b c", "a a b c"}, {"N;c x", "a b c", "x c"}, {"N;2s/^/x/;1s/^/y/", "a b", "xa b"},
		{"N;N;s/\\n/+/g", "a b c d e", "a+b+c d e"}, {"N;s/\\n/+/;N;s/\\n/-/", "a b c d e", "a+b-c d+e"}, {"N;N;N;s/\\n/+/g", "a b c", "a b c"}, {"N;n;s/^/x/", "a b c d", "a b xc d"}, {"n;N;s/\\n/+/", "a b c d e", "a b+c d e"},
		{"{N};s/\\n/+/", "a b c", "a+b c"}, {"2{N;s/\\n/+/}", "a b c d", "a b+c d"}, {"{{N};{N}};s/\\n/+/g", "a b c d", "a+b+c d"}, {"2{N;N;N;d}", "a b c", "a b c"}, {"1!{N;{d}}", "a b c d", "a d"},
		{"2N;s/\\n/+/", "a b c d", "a b+c d"}, {"2!N;s/\\n/+/", "a b c d", "a+b c+d"}, {"/b/N;s/\\n/+/", "a b c d", "a b+c d"}, {"$N;s/^/x/", "a b", "xa b"}, {"$!N;s/\\n/+/", "a b c", "a+b c"}, {"$!N;$!d", "a b c", "c"}, {"$!N;$!d", "a b", "a b"}, {"N;$s/\\n/+/", "a b c d", "a b c+d"}, {"$!{N;s/\\n/+/};s/^/x/", "a b c", "xa+b xc"}, {"$p;N;$p", "a b", "a b a b"},
		{"/a/,/c/{N;l;d}", "a b c d e", "a\\nb$ c\\nd$ e"}, {"2,3N;s/\\n/+/", "a b c d e f", "a b+c d+e f"}, {"2,3N;s/\\n/+/", "a b c d", "a b+c d"}, {"N;2,3s/^/x/", "a b c d e f", "xa b xc d e f"}, {"N;/a/,/d/s/\\n/+/", "a b c d e f", "a+b c+d e f"}, {"2,$N;s/\\n/+/", "a b c d e", "a b+c d+e"}, {"N;2,$s/\\n/+/", "a b c d", "a+b c+d"}, {"1,$!N;s/^/x/", "a b", "xa xb"},
		{"a x\nN;s/\\n/-/", "a b c", "x a-b c x"}, {"a x\nN;a y\nN;s/\\n/-/g", "a b c d", "x y a-b-c d x"}, {"N;a x\ns/\\n/-/", "a b c", "a-b x c"}, {"a x\na y\nN;a z", "a b", "x y a b z"}, {"1a x\nN", "a b", "x a b"},
		{"i x\nN;s/\\n/-/", "a b c", "x a-b x c"}, {"i x\na y\nN;i z", "a b", "x y z a b"}, {"p;N", "a b", "a a b"}, {"s/a/z/;N", "a b", "z b"},
		{"s/a/z/;N;t\ns/$/!/", "a b c d", "z b c d!"}, {"s/a/z/;N;t e\nd;:e;s/\\n/!/", "a b c d", "z!b"}, {"s/a/z/;t e\n:e;N;t\ns/$/!/", "a b", "z b!"}, {":a;N;s/\\n/,/;ta", "a b c", "a,b,c"}, {":a;$!{N;ba\n};s/\\n/,/g", "a b c d", "a,b,c,d"}, {":a;/,$/{N;s/\\n//;ba\n}", "a, b, c d e,", "a,b,c d e,"},
		{"h;N;G;s/\\n/-/g", "a b c", "a-b-a c"}, {"N;x;G;s/\\n/-/g", "a b c d", "-a-b a-b-c-d"}, {"N;y/ab\\n/ba,/", "a b", "b,a"},
		// Together with `D`.
		{"N;P;D", "a b c", "a b c"}, {"$!N;P;D", "a b c", "a b c"}, {"$!{$!N};P;D", "a b c", "a b c"}, {"N;D", "a b c", "c"}, {"$!N;D", "a b c", ""}, {"$!N;$!D", "a b c d", "c d"}, {"N;N;D", "a b c d e", "c d e"}, {"$!N;s/^(a*)\\na*/\\1/;P;D", "a a b", "a b"}, {"N;/b$/D", "a b c", "b c"}, {"=;N;D", "a b c", "1 2 3 c"},
		{"a x\nN;P;D", "a b c", "x a x b c x"}, {"a x\nN;a y\nD", "a b c", "x y x y c x"}, {"N;s/a/z/;D", "a b c", "c"}, {"N;t\ns/b/z/;D", "a b c", "c"},
	} {
		overLines(t, c.script, c.words, c.out)
	}
}

// `n` and `N` where there is no line more are as a `q`, with what `a` brought.
func TestNoLineMore(t *testing.T) {
	for _, what := range []string{"n", "N", "{n}", "{{N}}", "1n", "1!n;$N", "/a/N", "$n", "1,$n", "$,9N", "n;n", "N;N", "n 	;p", "N;a never", "N;s/a/b/", "n;d", "N;d", "n;c x", "N;i x\n", "n;q 4", "N;q 4", ":a;N;ba", "n;:a;ba"} {
		for _, in := range []string{"a", "a\n"} {
			quits(t, what, in, "a\n", 0)
			quits(t, "#n\n"+what, in, "", 0)
			quits(t, "a x\n"+what, in, "a\nx\n", 0)
			quits(t, "#n\na x\n"+what, in, "x\n", 0)
			quits(t, "a x\na y\ni z\n"+what, in, "z\na\nx\ny\n", 0)
			quits(t, "s/$/b/p\n"+what, in, "ab\nab\n", 0)
			quits(t, "s/$/\\nb/;P\n"+what, in, "a\na\nb\n", 0)
		}
		quits(t, what, "", "", 0)
		quits(t, "a x\ni y\n"+what, "", "", 0)
	}
	for _, what := range []string{"n", "N"} {
		// The only line is empty, with a newline behind it.
		quits(t, "a x\n"+what+";s/^/y/", "\n", "\nx\n", 0)
		// Behind a line that was read by an `n` or `N`, or that a `D` left.
		quits(t, "n;a x\n"+what+";p", lines("a b"), lines("a b x"), 0)
		quits(t, "N;a x\n"+what+";p", lines("a b"), lines("a b x"), 0)
		quits(t, "s/,/\\n/;/\\n/D;a x\n"+what+";p", "a,b", lines("b x"), 0)
		// With `!` it is not done.
		quits(t, "$!"+what+";p", "a", lines("a a"), 0)
		quits(t, "!"+what+";p;q 3", "a", lines("a a"), 3)
		// No cycle follows.
		quits(t, "=;"+what+";n;N", lines("a b"), lines("1 a b"), 0)
	}
}

// P8: lines that are empty, or have any bytes, for commands that read them in the middle of a cycle.
func TestNextOfAnyLines(t *testing.T) {
	for _, c := range []struct{ script, in, out string }{
		{"n", "\n", "\n"}, {"n", "\n\n", "\n\n"}, {"n", "\n\n\n", "\n\n\n"}, {"n", "\na", "\na\n"}, {"n;d", "\n\n\n", "\n\n"}, {"n;s/^/x/", "\n\n", "\nx\n"}, {"n;s/^/x/", "a\n\n", "a\nx\n"}, {"n;s/^/x/", "\na", "\nxa\n"}, {"n;n;s/^/x/", "\n\n\n\n", "\n\nx\n\n"},
		{"N;s/\\n/+/", "\n", "\n"}, {"N;s/\\n/+/", "\n\n", "+\n"}, {"N;s/\\n/+/", "\n\n\n", "+\n\n"}, {"N;s/\\n/+/", "a\n\n", "a+\n"}, {"N;s/\\n/+/", "\na", "+a\n"}, {"N;N;s/\\n/+/g", "\n\n\n", "++\n"}, {"$!N;l;d", "a\n\n\n", "a\\n$\n$\n"}, {"N;P;D", "\n\na\n\n", "\n\na\n\n"}, {"H;N;x", "a\nb\n", "\na\n"},
		{"n;l;d", "\x00\n\xff\r\n", "\x00\n\\377\\015$\n"}, {"N;l;d", "\x00\n\xff\r", "\\000\\n\\377\\015$\n"}, {"N;l;d", "\r\n\r\n", "\\015\\n\\015$\n"},
	} {
		edits(t, c.script, c.in, c.out)
	}
}

// P9: what is written by scripts that read lines in the middle of a cycle.
func TestFilesAhead(t *testing.T) {
	in := lines("a b c")
	file := func(name, text string) api.File { return api.File{Name: name, Text: text} }
	writes(t, "$w f", in, file("f", "c\n"))
	writes(t, "$!w f\n2,$w g", in, file("f", lines("a b")), file("g", lines("b c")))
	writes(t, "n;w f", in, file("f", "b\n"))
	writes(t, "w f\nn;w f\nw g", in, file("f", in), file("g", "b\n"))
	writes(t, "N;w f", in, file("f", lines("a b")))
	writes(t, "N;s/\\n/+/w f\n$!N;w g", lines("a b c d"), file("f", lines("a+b")), file("g", lines("a+b c")))
	writes(t, "n;n;n;w no", in, file("no", ""))
	writes(t, "w f\nN;N;N;w no", in, file("f", "a\n"), file("no", ""))
	writes(t, "$!N;P;w f\nD", in, file("f", lines("a b b c c")))
	writes(t, "$!d;w f", "", file("f", ""))
}
