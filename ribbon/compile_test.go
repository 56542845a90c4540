package ribbon

import (
	"strings"
	"sync"
	"testing"

	"ribbon/api"
)

// compiles holds a script that is one against what Text and Ahead tell (P1: the place is 0 then).
func compiles(t *testing.T, script, text string, ahead bool) {
	t.Helper()
	p, err, place := Compile(script)
	if p == nil || err != api.OK || place != 0 {
		t.Errorf("Compile(%.80q) = %v, %d, %d, want OK", script, p != nil, err, place)
		return
	}
	if p.Text() != text || p.Ahead() != ahead {
		t.Errorf("of %.80q: %q, %v, want %q, %v", script, p.Text(), p.Ahead(), text, ahead)
	}
}

// fails holds a script that is none against its error (P1: nothing stands beside it but a place).
func fails(t *testing.T, script string, err api.Errno, place int) {
	t.Helper()
	p, gotErr, gotPlace := Compile(script)
	if p != nil || gotErr != err || gotPlace != place {
		t.Errorf("Compile(%.80q) = %v, %d, %d, want error %d at %d", script, p != nil, gotErr, gotPlace, err, place)
	}
}

// failsAnywhere does so, and behind other commands, and ahead of a line of any kind: it is refused when it is met, and a newline helps no command that is cut short.
func failsAnywhere(t *testing.T, script string, err api.Errno, place int) {
	t.Helper()
	fails(t, script, err, place)
	for _, ahead := range []string{"p\n", "#n\n", " ;\t# {\n", "s/(a)/\\1/gp;", "1,/x/!{\n}\n", "a }\n"} {
		fails(t, ahead+script, err, len(ahead)+place)
	}
	for _, behind := range []string{"\n", "\nk", "\n}", "\n/(/p", "\nb nowhere", "\n{"} {
		fails(t, script+behind, err, place)
	}
}

func repeat(text string, times int) string {
	return strings.Repeat(text, times)
}

// P5: ErrLong.
func TestScriptTooLong(t *testing.T) {
	compiles(t, repeat(";", api.MaxScript), "", false)
	compiles(t, repeat(" ", api.MaxScript-1)+"p", "p\n", false)
	compiles(t, "#"+repeat("x", api.MaxScript-1), "", false)
	text := repeat("x", api.MaxScript-1)
	compiles(t, "a"+text, "a "+text+"\n", false)
	fails(t, repeat(";", api.MaxScript+1), api.ErrLong, 0)
	fails(t, repeat("p;", api.MaxScript), api.ErrLong, 0)
	// It comes ahead of all others.
	fails(t, repeat("k", api.MaxScript+1), api.ErrLong, 0)
	fails(t, repeat("k", api.MaxScript), api.ErrScript, 0)
	fails(t, "/(/"+repeat("p", api.MaxScript), api.ErrLong, 0)
	fails(t, repeat("{", api.MaxScript+1), api.ErrLong, 0)
}

// P6: what stands between commands is not told.
func TestBetweenCommands(t *testing.T) {
	for _, c := range []struct{ script, text string }{
		{"", ""}, {"\n", ""}, {";", ""}, {" \t", ""}, {";;\n\n; ;\t;", ""}, {"#", ""}, {"# x", ""}, {"#x\n", ""}, {"#\n#\n", ""}, {"##", ""},
		{"p", "p\n"}, {" p", "p\n"}, {"\tp\t", "p\n"}, {"\n\np\n\n", "p\n"}, {";p;", "p\n"}, {"p \t ", "p\n"}, {"p ;", "p\n"}, {"p#x", "p\n"}, {"p \t#x", "p\n"},
		{"p;d", "p\nd\n"}, {"p\nd", "p\nd\n"}, {"p;\n; d", "p\nd\n"}, {"p#d\nd", "p\nd\n"}, {"p;#d;x\n\td", "p\nd\n"}, {"#p\nd", "d\n"}, {";#p\n#}{\nd", "d\n"},
		{"{p}", "{\np\n}\n"}, {"{p }", "{\np\n}\n"}, {"{p;}", "{\np\n}\n"}, {"{\np\n}\n", "{\np\n}\n"}, {"{;p;;}", "{\np\n}\n"}, {" { \t p \t } ", "{\np\n}\n"},
		{"{#}\np#}\n}#}", "{\np\n}\n"}, {"{}", "{\n}\n"}, {"{ }", "{\n}\n"}, {"{;}", "{\n}\n"}, {"{#\n}", "{\n}\n"}, {"{{}}", "{\n{\n}\n}\n"}, {"{{} }", "{\n{\n}\n}\n"},
		{"{};{}", "{\n}\n{\n}\n"}, {"{}\n{}", "{\n}\n{\n}\n"}, {"{}#\n{}", "{\n}\n{\n}\n"}, {"{1p;2{d};x}", "{\n1p\n2{\nd\n}\nx\n}\n"},
	} {
		compiles(t, c.script, c.text, false)
	}
}

// P5, P6: only at its very beginning, and alone in its line, `#n` makes a script quiet.
func TestQuiet(t *testing.T) {
	for _, c := range []struct{ script, text string }{
		{"#n", "#n\n"}, {"#n\n", "#n\n"}, {"#n\np", "#n\np\n"}, {"#n\n\n;p", "#n\np\n"}, {"#n\n#n\np", "#n\np\n"}, {"#n\n{}", "#n\n{\n}\n"},
		{"#", ""}, {"#no", ""}, {"#n ", ""}, {"#n p\np", "p\n"}, {"#n;p", ""}, {"#n#\np", "p\n"}, {"# n\np", "p\n"}, {"#N\np", "p\n"}, {"#n\r\np", "p\n"}, {"##n\np", "p\n"},
		{" #n\np", "p\n"}, {"\n#n\np", "p\n"}, {";#n\np", "p\n"}, {"p#n\n", "p\n"}, {"p\n#n\n", "p\n"}, {"#\n#n\np", "p\n"}, {"{#n\n}", "{\n}\n"}, {"a#n\n", "a #n\n"},
	} {
		compiles(t, c.script, c.text, false)
	}
}

// P6: addresses, and `!`.
func TestAddresses(t *testing.T) {
	for _, c := range []struct {
		script, text string
		ahead        bool
	}{
		{"1p", "1p\n", false}, {"10p", "10p\n", false}, {"999999p", "999999p\n", false}, {"1000000p", "1000000p\n", false}, {"1,1000000p", "1,1000000p\n", false},
		{"$p", "$p\n", true}, {"/a/p", "/a/p\n", false}, {"//p", "//p\n", false}, {"1,2p", "1,2p\n", false}, {"2,1p", "2,1p\n", false}, {"1,$p", "1,$p\n", true}, {"$,1p", "$,1p\n", true},
		{"$,$p", "$,$p\n", true}, {"1,/a/p", "1,/a/p\n", false}, {"/a/,1p", "/a/,1p\n", false}, {"/a/,/b/p", "/a/,/b/p\n", false}, {"/a/,$p", "/a/,$p\n", true}, {"//,//p", "//,//p\n", false},
		{"1 p", "1p\n", false}, {"1,2\t p", "1,2p\n", false}, {" 1p", "1p\n", false}, {"/ a /p", "/ a /p\n", false},
		{"!p", "!p\n", false}, {"! p", "!p\n", false}, {"1!p", "1!p\n", false}, {"1 !p", "1!p\n", false}, {"1! p", "1!p\n", false}, {"1\t!\t p", "1!p\n", false}, {"$!p", "$!p\n", true}, {"1,2!p", "1,2!p\n", false},
		{"/a\\/b/p", "/a\\/b/p\n", false}, {"/\\//p", "/\\//p\n", false}, {"/\\\\/p", "/\\\\/p\n", false}, {"/\\\\\\//p", "/\\\\\\//p\n", false}, {"/[\\/]/p", "/[\\/]/p\n", false},
		{"/\\n\\t/p", "/\\n\\t/p\n", false}, {"/a;b#c,!/p", "/a;b#c,!/p\n", false}, {"/(a|b)*[[:alpha:]]{2,3}$/p", "/(a|b)*[[:alpha:]]{2,3}$/p\n", false},
		{"1{p}", "1{\np\n}\n", false}, {"1!{p}", "1!{\np\n}\n", false}, {"1,2 ! {p}", "1,2!{\np\n}\n", false}, {"/\xff\x00/p", "/\xff\x00/p\n", false},
	} {
		compiles(t, c.script, c.text, c.ahead)
		compiles(t, "{"+c.script+"}", "{\n"+c.text+"}\n", c.ahead)
	}
}

// P6: commands that have nothing behind them.
func TestBareCommands(t *testing.T) {
	for _, b := range "dDgGhHxnNpPl=bt" {
		c := string(b)
		ahead := c == "n" || c == "N"
		compiles(t, c, c+"\n", ahead)
		compiles(t, " 1,/a/ ! "+c+" # x", "1,/a/!"+c+"\n", ahead)
		compiles(t, "{"+c+"}", "{\n"+c+"\n}\n", ahead)
		compiles(t, "{{p;"+c+";p}}", "{\n{\np\n"+c+"\np\n}\n}\n", ahead)
		compiles(t, c+";"+c+"\n"+c+" "+"#", c+"\n"+c+"\n"+c+"\n", ahead)
		failsAnywhere(t, c+"!", api.ErrScript, 1)
		failsAnywhere(t, c+" /", api.ErrScript, 2)
		failsAnywhere(t, c+"\r", api.ErrScript, 1)
		failsAnywhere(t, c+":", api.ErrScript, 1)
		failsAnywhere(t, c+"{", api.ErrScript, 1)
		if c != "b" && c != "t" {
			failsAnywhere(t, c+"p", api.ErrScript, 1)
			failsAnywhere(t, c+" p", api.ErrScript, 2)
			failsAnywhere(t, c+"1", api.ErrScript, 1)
		}
	}
}

// P6: commands with a LABEL, a NAME, a status, or a TEXT.
func TestOperands(t *testing.T) {
	for _, c := range []struct{ script, text string }{
		{":a", ": a\n"}, {": a", ": a\n"}, {":\t a ", ": a\n"}, {":a;:A;:0", ": a\n: A\n: 0\n"}, {":12345678", ": 12345678\n"}, {":a#x", ": a\n"}, {"{:a}", "{\n: a\n}\n"}, {":zZ9aA0", ": zZ9aA0\n"},
		{":a;ba", ": a\nb a\n"}, {"ba;:a", "b a\n: a\n"}, {"b a;:a", "b a\n: a\n"}, {"b \t a #x\n:a", "b a\n: a\n"}, {"{ba};{:a}", "{\nb a\n}\n{\n: a\n}\n"}, {"1!ba;:a", "1!b a\n: a\n"},
		{":a;ta", ": a\nt a\n"}, {"t  a;:a", "t a\n: a\n"}, {"ba;ba;ta;:a", "b a\nb a\nt a\n: a\n"}, {"b ;t\t;b", "b\nt\nb\n"}, {"{b}", "{\nb\n}\n"}, {"{t }", "{\nt\n}\n"}, {":b;bb;b b", ": b\nb b\nb b\n"},
		{"q", "q\n"}, {"q0", "q\n"}, {"q 0", "q\n"}, {"q1", "q 1\n"}, {"q \t 10", "q 10\n"}, {"q255", "q 255\n"}, {"q99;q100", "q 99\nq 100\n"}, {"q ;q", "q\nq\n"}, {"{q5}", "{\nq 5\n}\n"}, {"1,2!q 7#x", "1,2!q 7\n"},
		{"wout", "w out\n"}, {"w out", "w out\n"}, {"w\t \tout ;p", "w out\np\n"}, {"w12345678", "w 12345678\n"}, {"{w a}", "{\nw a\n}\n"}, {"w a#b", "w a\n"}, {"w a;w a;w b", "w a\nw a\nw b\n"},
		{"a", "a\n"}, {"a ", "a\n"}, {"a \t ", "a\n"}, {"a\np", "a\np\n"}, {"a  \np", "a\np\n"}, {"ax", "a x\n"}, {"a x", "a x\n"}, {"a\t x", "a x\n"}, {"a x  ", "a x  \n"}, {"a x\t\np", "a x\t\np\n"},
		{"a;p", "a ;p\n"}, {"a #x", "a #x\n"}, {"a }\np", "a }\np\n"}, {"{a\n}", "{\na\n}\n"}, {"{a }\n}", "{\na }\n}\n"}, {"a\\n", "a \\n\n"}, {"a \\t x", "a \\t x\n"}, {"a \\\\", "a \\\\\n"}, {"a x\\\\n\\n\\t\\\\", "a x\\\\n\\n\\t\\\\\n"},
		{"i x", "i x\n"}, {"i", "i\n"}, {"ic", "i c\n"}, {"c x", "c x\n"}, {"c\\n", "c \\n\n"}, {"1,2c x", "1,2c x\n"}, {"1!i\tx", "1!i x\n"}, {"a /&\x00\xff\r$!", "a /&\x00\xff\r$!\n"}, {"a a\na a", "a a\na a\n"},
	} {
		compiles(t, c.script, c.text, false)
	}
}

// P6: `s` and `y`.
func TestReplacements(t *testing.T) {
	for _, c := range []struct{ script, text string }{
		{"s/a/b/", "s/a/b/\n"}, {"s///", "s///\n"}, {"s/a//", "s/a//\n"}, {"s//b/", "s//b/\n"}, {"1,2!s/a/b/ ;p", "1,2!s/a/b/\np\n"}, {"{s/a/b/}", "{\ns/a/b/\n}\n"}, {"s/a/b/#g", "s/a/b/\n"},
		{"s/a/b/g", "s/a/b/g\n"}, {"s/a/b/p", "s/a/b/p\n"}, {"s/a/b/1", "s/a/b/1\n"}, {"s/a/b/10", "s/a/b/10\n"}, {"s/a/b/1000000", "s/a/b/1000000\n"}, {"s/a/b/wf", "s/a/b/w f\n"}, {"s/a/b/w \tf ;p", "s/a/b/w f\np\n"},
		{"s/a/b/g12p", "s/a/b/g12p\n"}, {"s/a/b/pg", "s/a/b/gp\n"}, {"s/a/b/p7", "s/a/b/7p\n"}, {"s/a/b/7g", "s/a/b/g7\n"}, {"s/a/b/p7gwf", "s/a/b/g7pw f\n"}, {"s/a/b/7gpw f", "s/a/b/g7pw f\n"}, {"s/a/b/gp7w  f", "s/a/b/g7pw f\n"},
		{"s/a/b/wgp7", "s/a/b/w gp7\n"}, {"s/a/b/ww", "s/a/b/w w\n"}, {"s/a/b/gw12345678", "s/a/b/gw 12345678\n"}, {"{s/a/b/wf}", "{\ns/a/b/w f\n}\n"}, {"s/a/b/wf#x", "s/a/b/w f\n"},
		{"s/a\\/b/c\\/d/", "s/a\\/b/c\\/d/\n"}, {"s/\\\\/\\\\/", "s/\\\\/\\\\/\n"}, {"s/a/&&\\&/", "s/a/&&\\&/\n"}, {"s/a/\\n\\t/", "s/a/\\n\\t/\n"}, {"s/ a / ;#}{! /", "s/ a / ;#}{! /\n"}, {"s/a/[(*+?|.^$])/", "s/a/[(*+?|.^$])/\n"},
		{"s/(a)/\\1/", "s/(a)/\\1/\n"}, {"s/(a)(b)/\\2\\1\\2/", "s/(a)(b)/\\2\\1\\2/\n"}, {"s/((((((((()))))))))/\\1\\2\\3\\4\\5\\6\\7\\8\\9/", "s/((((((((()))))))))/\\1\\2\\3\\4\\5\\6\\7\\8\\9/\n"}, {"s/(a)/\\10/", "s/(a)/\\10/\n"}, {"s/(a){0}/\\1/", "s/(a){0}/\\1/\n"},
		{"s/a/\\\\1/", "s/a/\\\\1/\n"}, {"s/(a\\()/\\1/", "s/(a\\()/\\1/\n"}, {"s/a/\x00\xff\r\t/", "s/a/\x00\xff\r\t/\n"},
		{"y/a/b/", "y/a/b/\n"}, {"y///", "y///\n"}, {"y/abc/xyz/", "y/abc/xyz/\n"}, {"y/abc/xxx/", "y/abc/xxx/\n"}, {"y/ab/ba/", "y/ab/ba/\n"}, {"y/a\\n/\\tb/", "y/a\\n/\\tb/\n"}, {"y/\\/\\\\/\\\\\\//", "y/\\/\\\\/\\\\\\//\n"},
		{"y/n\\nt\\t/abcd/", "y/n\\nt\\t/abcd/\n"}, {"y/;#}{! &/0123456/", "y/;#}{! &/0123456/\n"}, {"y/a/&/", "y/a/&/\n"}, {"1y/a/b/ ;p", "1y/a/b/\np\n"}, {"{y/a/b/}", "{\ny/a/b/\n}\n"}, {"y/a/b/#g", "y/a/b/\n"}, {"y/\x00\xff/\xff\x00/", "y/\x00\xff/\xff\x00/\n"},
	} {
		compiles(t, c.script, c.text, false)
	}
}

// P6: Ahead is true by a `$` address, an `n` or an `N` alone, wherever it stands.
func TestAhead(t *testing.T) {
	for _, script := range []string{
		"$p", "1,$p", "$,1p", "/a/,$p", "$!p", "$,/a/!d", "${p}", "n", "N", "1n", "1!N", "n;p", "p;n", "{n}", "{{{N}}}", "{p;{d;$x}}", "1,$!{}", "b;n", "q;$q", ":a;$!ba", "$s/a/b/", "$a x", "$y/a/b/", "$w f",
	} {
		if p, err, _ := Compile(script); err != api.OK || !p.Ahead() {
			t.Errorf("of %q: %d, and Ahead is false", script, err)
		}
	}
	for _, script := range []string{
		"", "#n", "#n\n", "# $n", "p", "1p", "/$/p", "/a$/,/n/p", "s/$/n/", "s/a/$/", "s/n/N/", "s/a/\\n/", "y/$n/N$/", "a $", "an", "i N", "c $!N", ":n;bn", ":N;tN", "wn", "s/a/b/wN", "#n\n{}", "=;l;D;d;g;G;h;H;x;p;P;q",
	} {
		if p, err, _ := Compile(script); err != api.OK || p.Ahead() {
			t.Errorf("of %q: %d, and Ahead is true", script, err)
		}
	}
}

// P5: ErrScript, and its place.
func TestNoScript(t *testing.T) {
	for _, c := range []struct {
		script string
		place  int
	}{
		// What to do.
		{"k", 0}, {"A", 0}, {"\r", 0}, {"\x00", 0}, {"\xff", 0}, {"\\", 0}, {"-", 0}, {"*", 0}, {",", 0}, {"&", 0}, {"{k", 1}, {"{ k}", 2}, {"p;k", 2}, {"p;;k", 3}, {"p\n k", 3},
		{"pp", 1}, {"p p", 2}, {"p\tp", 2}, {"p1", 1}, {"p,", 1}, {"p!", 1}, {"p{", 1}, {"p:a", 1}, {"{}p", 2}, {"{} p", 3}, {"{}{", 2}, {"{}{}", 2}, {"{p}p", 3}, {"{p}:a", 3}, {"{p}1", 3},

		// Addresses.
		{"1", 1}, {"1 ", 2}, {"1;", 1}, {"1#", 1}, {"1\n", 1}, {"12", 2}, {"$", 1}, {"/a/", 3}, {"1k", 1}, {"1 k", 2}, {"1,", 2}, {"1,p", 2}, {"1,,", 2}, {"1,!p", 2}, {"2,x", 2}, {",", 0}, {",2p", 0}, {"1 ,2p", 2}, {"1, 2p", 2}, {"1,2", 3}, {"1,2,3p", 3},
		{"$$p", 1}, {"$1p", 1}, {"1$p", 1}, {"1/a/p", 1}, {"/a//b/p", 3}, {"/a/1p", 3}, {"1 2p", 2}, {"1+p", 1}, {"-1p", 0}, {"1,-1p", 2}, {"1,$,p", 3}, {"+", 0}, {"1\r", 1},
		{"0p", 0}, {"0", 0}, {"00p", 0}, {"01p", 0}, {"1,0p", 2}, {"1,01p", 2}, {"1000001p", 6}, {"1000009", 6}, {"2000000p", 6}, {"9999999p", 6}, {"10000000p", 7}, {"1000000000000000000000p", 7}, {"99999999999999999999", 6}, {"1,1000001p", 8}, {"1,18446744073709551617p", 8},

		// `!`.
		{"!", 1}, {"! ", 2}, {"!!p", 1}, {"! !p", 2}, {"1!!p", 2}, {"1! !p", 3}, {"!1p", 1}, {"!$p", 1}, {"!/a/p", 1}, {"!;", 1}, {"!#", 1}, {"!\n", 1}, {"1!,2p", 2}, {"!k", 1},

		// PATTERNs that do not end.
		{"/", 1}, {"/a", 2}, {"/(", 2}, {"/a\n/p", 2}, {"/\n/p", 1}, {"/a\\", 3}, {"/a\\/", 4}, {"/a\\/p", 5}, {"/a\\\\\\/p", 7}, {"/**", 3}, {"1,/", 3}, {"1,/a", 4}, {"1,/a\n", 4}, {"/a\\\n/p", 3}, {"/a*\\\n*/p", 4}, {"s/a\\\nb/c/", 4},
		{"/" + repeat("a", api.MaxPattern+1), api.MaxPattern + 2}, {"s/" + repeat("a", api.MaxPattern+1), api.MaxPattern + 3},

		// Braces and labels.
		{"1}", 1}, {"!}", 1}, {"1!}", 2}, {"$ }", 2}, {"1,2 ! }", 6}, {"{1}", 2}, {"{!}", 2}, {"{1,/a/ !}", 8}, {"/a/}", 3}, {"1}p", 1},
		{"1:", 1}, {"1:a", 1}, {"!:a", 1}, {"1!:a", 2}, {"$ ! :a", 4}, {"1,2:a", 3}, {"/a/:a", 3}, {"1:!", 1}, {"1 :123456789", 2}, {"!:", 1},
		{":", 1}, {": ", 2}, {": ;", 2}, {":;", 1}, {":\n", 1}, {":#", 1}, {":}", 1}, {":-", 1}, {":_", 1}, {":a-", 2}, {":a_", 2}, {":a b", 3}, {":a:b", 2}, {":a p", 3}, {":a{", 2}, {":\xe9", 1}, {":a\r", 2}, {":123456789", 9}, {": 123456789", 10}, {":123456789012", 9}, {":12345678-", 9}, {":12345678 9", 10}, {": !", 2},
		{"b-", 1}, {"b !", 2}, {"b a c", 4}, {"ba-", 2}, {"b123456789", 9}, {"t123456789", 9}, {"t \t123456789", 11}, {"t a b", 4}, {"t,", 1}, {"b/", 1}, {"b,a", 1}, {"b{", 1}, {"b a{", 3},

		// `w` and `q`.
		{"w", 1}, {"w ", 2}, {"w;", 1}, {"w ;", 2}, {"w#", 1}, {"w\n", 1}, {"w}", 1}, {"w-", 1}, {"w/f", 1}, {"w a-b", 3}, {"w a.b", 3}, {"w a b", 4}, {"w123456789", 9}, {"w 123456789", 10}, {"w !", 2}, {"w a{", 3},
		{"q256", 3}, {"q 256", 4}, {"q300", 3}, {"q999", 3}, {"q2550", 4}, {"q1000", 4}, {"q01", 2}, {"q 01", 3}, {"q00", 2}, {"q 000", 3}, {"q1 2", 3}, {"q 1 2", 4}, {"q-1", 1}, {"q+1", 1}, {"q1a", 2}, {"qa", 1}, {"q a", 2}, {"q5{", 2}, {"q 0 0", 4}, {"q0x", 2}, {"q4294967296", 3},

		// TEXT.
		{"a\\", 1}, {"a \\", 2}, {"a x\\", 3}, {"a\\x", 1}, {"a \\x", 2}, {"a x\\\ny", 3}, {"a\\ ", 1}, {"a\\1", 1}, {"a\\&", 1}, {"a\\/", 1}, {"a\\;", 1}, {"a\\}", 1}, {"a \\\\\\", 4}, {"a \\n\\r", 4}, {"i\\N", 1}, {"i x\\", 3}, {"c\\T", 1}, {"c  \\a", 3}, {"a  \\", 3},

		// `s`.
		{"s", 1}, {"sa", 1}, {"s ", 1}, {"s /a/b/", 1}, {"s,a,b,", 1}, {"s;", 1}, {"s\n", 1}, {"s/", 2}, {"s/a", 3}, {"s/a\n", 3}, {"s/a/", 4}, {"s/a/b", 5}, {"s/a/b\n/", 5}, {"s/a/\n/", 4}, {"s/a/b\\/", 7}, {"s/a\\/b", 6}, {"s/a\\/b/", 7}, {"s//", 3}, {"s/a/b;p", 7},
		{"s/a/\\x/", 4}, {"s/a/\\", 4}, {"s/a/b\\", 5}, {"s/a/\\\n/", 4}, {"s/a/\\0/", 4}, {"s/(a)/\\0/", 6}, {"s/a/\\ /", 4}, {"s/a/\\(/", 4}, {"s/a/\\N/", 4}, {"s/a/&\\n\\;/", 7}, {"s/a/\\\\\\", 6}, {"s/a/\\;", 4}, {"s/a/\\-/", 4},
		{"s/a/\\1/", 4}, {"s/(a)/\\2/", 6}, {"s/(a)/\\1\\2/", 8}, {"s/(a)(b)/\\3/", 9}, {"s/((a))/\\2\\3\\9/", 10}, {"s/a/\\9", 4}, {"s/\\(a\\)/\\1/", 8}, {"s/[(a)]/\\1/", 8}, {"s//\\1/", 3}, {"s/(((((((())))))))/\\8\\9/", 21}, {"s/a/\\1\n", 4},
		{"s/a/b/x", 6}, {"s/a/b/G", 6}, {"s/a/b/gx", 7}, {"s/a/b/g x", 8}, {"s/a/b/ g", 7}, {"s/a/b/g p", 8}, {"s/a/b//", 6}, {"s/a/b/{", 6}, {"s/a/b/!", 6}, {"s/a/b/,", 6}, {"s/a/b/d", 6},
		{"s/a/b/gg", 7}, {"s/a/b/pp", 7}, {"s/a/b/gpg", 8}, {"s/a/b/pgp", 8}, {"s/a/b/1g2", 8}, {"s/a/b/1g1", 8}, {"s/a/b/12p34", 9}, {"s/a/b/1p0", 8}, {"s/a/b/1p1000001", 8}, {"s/a/b/g1g", 8}, {"s/a/b/1gp2", 9}, {"s/a/b/1 2", 8}, {"s/a/b/g10p20", 10},
		{"s/a/b/0", 6}, {"s/a/b/g0", 7}, {"s/a/b/00", 6}, {"s/a/b/01", 6}, {"s/a/b/1000001", 12}, {"s/a/b/9999999", 12}, {"s/a/b/g10000000p", 14}, {"s/a/b/-1", 6},
		{"s/a/b/w", 7}, {"s/a/b/w ", 8}, {"s/a/b/w;", 7}, {"s/a/b/w\n", 7}, {"s/a/b/gw-", 8}, {"s/a/b/w f g", 10}, {"s/a/b/wf w", 9}, {"s/a/b/w123456789", 15}, {"s/a/b/w 123456789", 16}, {"s/a/b/w f.g", 9}, {"s/a/b/w}", 7},

		// `y`.
		{"y", 1}, {"ya", 1}, {"y /a/b/", 1}, {"y,a,b,", 1}, {"y/", 2}, {"y/a", 3}, {"y/a/", 4}, {"y/a/b", 5}, {"y//", 3}, {"y/a\n/b/", 3}, {"y/a/\n/", 4}, {"y/a/b\n", 5}, {"y/a\\/b/", 7}, {"y/\n", 2},
		{"y/ab/c/", 6}, {"y/a//", 4}, {"y/abc/xy/", 8}, {"y/\\n\\t/\\n/", 9}, {"y/a/bc/", 5}, {"y//a/", 3}, {"y/a/bcd", 5}, {"y/a/b\\n/", 5}, {"y//\\n/", 3}, {"y/a/\\\\b/", 6}, {"y/ab/xy\\", 7}, {"y/a/b\\x", 5},
		{"y/aa/bc/", 3}, {"y/aa", 3}, {"y/aba/xyz/", 4}, {"y/abb/x/", 4}, {"y/a\\nb\\n/wxyz/", 6}, {"y/\\/a\\//abc/", 5}, {"y/\\\\\\\\/ab/", 4}, {"y/\t\\t/ab/", 3}, {"y/\\t\t/ab/", 4}, {"y/\xffa\xff/abc/", 4}, {"y/aa\\x/b/", 3},
		{"y/a\\b/xy/", 3}, {"y/\\", 2}, {"y/a\\", 3}, {"y/a/\\", 4}, {"y/\\&/a/", 2}, {"y/a/\\&/", 4}, {"y/\\1/a/", 2}, {"y/\\\n/a/", 2}, {"y/ab/x\\y/", 6}, {"y/a/\\\n/", 4}, {"y/ab/\\x", 5},
		{"y/a/b/g", 6}, {"y/a/b/ g", 7}, {"y/a/b/1", 6}, {"y/a/b//", 6}, {"y/a/b/{", 6},
	} {
		failsAnywhere(t, c.script, api.ErrScript, c.place)
	}
}

// P5: each PATTERN is read as Match reads it, once its `/` was met.
func TestPatternsOfScripts(t *testing.T) {
	long := repeat("a", api.MaxPattern)
	large := "(a{20}){14}"
	for _, ahead := range []string{"", "1,", "$,", "/x/,", "s", "1!s", "{\n", "p;", "/a\\/b/,", "#n\n", "a x\n$ ! s"} {
		at := len(ahead) + 1
		for _, c := range []struct {
			pattern string
			err     api.Errno
			place   int
		}{
			{"(", api.ErrPattern, 1}, {"a**", api.ErrPattern, 2}, {"[", api.ErrPattern, 1}, {"a)", api.ErrPattern, 1}, {"[b-a]", api.ErrPattern, 3}, {"a{2,1}", api.ErrPattern, 4}, {"a{2,1", api.ErrPattern, 5}, {"a{21}", api.ErrPattern, 3},
			{"\\a", api.ErrPattern, 1}, {"\\/*\\/**", api.ErrPattern, 6}, {"[[:alphx", api.ErrPattern, 7}, {"a|*", api.ErrPattern, 2}, {repeat("()", 10), api.ErrPattern, 18}, {"[\\/", api.ErrPattern, 3}, {"\\n\\r", api.ErrPattern, 3},
			{large, api.ErrSize, len(large)}, {large + "\\/", api.ErrSize, len(large) + 2}, {large + "*", api.ErrPattern, len(large)},
			{long + "a", api.ErrLong, 0}, {long + "*", api.ErrLong, 0}, {long + "\\/", api.ErrLong, 0}, {long[:api.MaxPattern-1] + "\\/", api.ErrLong, 0}, {"(" + long, api.ErrLong, 0}, {large + long, api.ErrLong, 0}, {long[:api.MaxPattern-2] + "**", api.ErrPattern, api.MaxPattern - 1},
		} {
			fails(t, ahead+"/"+c.pattern+"/", c.err, at+c.place)
			// Nothing that stands behind it is met.
			fails(t, ahead+"/"+c.pattern+"/\\x/k", c.err, at+c.place)
			fails(t, ahead+"/"+c.pattern+"/\n{{{{{{{{{b x", c.err, at+c.place)
			// Without the `/` behind it, it is none.
			fails(t, ahead+"/"+c.pattern, api.ErrScript, at+len(c.pattern))
			fails(t, ahead+"/"+c.pattern+"\n/", api.ErrScript, at+len(c.pattern))
			fails(t, ahead+"/"+c.pattern+"\\/", api.ErrScript, at+len(c.pattern)+2)
		}
	}
	for _, pattern := range []string{long, long[:api.MaxPattern-2] + "\\/", "(a{20}){13}", "(a{18}){15}", "[^\\/\\]]*"} {
		compiles(t, "/"+pattern+"/,/"+pattern+"/s/"+pattern+"/&/", "/"+pattern+"/,/"+pattern+"/s/"+pattern+"/&/\n", false)
	}
	// A `/` ends it, also where a class is open.
	fails(t, "/[/]/p", api.ErrPattern, 2)
	fails(t, "s/[/]/x/", api.ErrPattern, 3)
	fails(t, "s/[^/]/[^/]/", api.ErrPattern, 4)
	// The first of two is met first, and that of an address ahead of that of an `s`.
	fails(t, "/(/,/a**/p", api.ErrPattern, 2)
	fails(t, "/a/,/a**/s/(/x/", api.ErrPattern, 7)
	fails(t, "/a/,//s/(/x/", api.ErrPattern, 9)
	fails(t, "/"+large+"/,/(/p", api.ErrSize, 12)
	fails(t, "/"+long+"a/,/(/p", api.ErrLong, 1)
	fails(t, "/(/,/"+long+"a/p", api.ErrPattern, 2)
}

// P5: ErrNest.
func TestNest(t *testing.T) {
	deep := repeat("{", api.MaxNest)
	compiles(t, deep+repeat("}", api.MaxNest), repeat("{\n", api.MaxNest)+repeat("}\n", api.MaxNest), false)
	compiles(t, deep+"}"+repeat(";{}", 5)+repeat("}", api.MaxNest-1), repeat("{\n", api.MaxNest)+"}\n"+repeat("{\n}\n", 5)+repeat("}\n", api.MaxNest-1), false)
	compiles(t, repeat("{};", 100), repeat("{\n}\n", 100), false)
	for _, c := range []struct {
		script string
		place  int
	}{
		// Too deep.
		{deep + "{", 8}, {deep + "{k", 8}, {deep + "1{", 9}, {deep + "1,$ ! {", 14}, {deep + " {", 9}, {deep + "p;\n{", 11}, {deep + "};{{", 11}, {deep + "{" + repeat("}", 9), 8}, {repeat("1{", 9), 17}, {"{" + repeat("{p;", 8), 22}, {deep + "{b x", 8},
		// One that has none.
		{"}", 0}, {"}}", 0}, {"}p", 0}, {"}k", 0}, {" }", 1}, {"p}", 1}, {"p }", 2}, {"p;}", 2}, {"p\n}", 2}, {"p#\n}", 3}, {"{}}", 2}, {"{}\n}", 3}, {"{};p}", 4}, {"{{}}}", 4}, {"a x\n}", 4}, {"q5}", 2}, {"s/a/b/gp}", 8}, {"y/a/b/ }", 7}, {"b}", 1}, {"w f}", 3}, {":a}", 2}, {"bx}", 2}, {"#n\n}", 3},
		// Open at the end.
		{"{", 1}, {"{p", 2}, {"{p;", 3}, {"{p\n", 3}, {"{ # }", 5}, {"{a }", 4}, {"{p;{d}", 6}, {"{{}", 3}, {deep, 8}, {"1!{", 3}, {"{};{", 4}, {"{w f", 4}, {"{i\\n}", 5}, {"p;{ \t", 5},
		// It comes ahead of a label that is nowhere, at the end or ahead of it.
		{"{b x", 4}, {"bx;{", 4}, {"bx}", 2}, {"{tx;:y", 6},
	} {
		fails(t, c.script, api.ErrNest, c.place)
		fails(t, "p;"+c.script, api.ErrNest, c.place+2)
		if c.place < len(c.script) {
			fails(t, c.script+"\nk/(/", api.ErrNest, c.place)
			fails(t, c.script+"\n:a\n:a", api.ErrNest, c.place)
		}
	}
	// What is cut short at the end is refused ahead of what is open.
	for _, script := range []string{"{1", "{1,", "{!", "{/a", "{s/a/b", "{y/a/b", "{:", "{w", "{s/a/b/w", "{{1"} {
		fails(t, script, api.ErrScript, len(script))
	}
	fails(t, "{p;k", api.ErrScript, 3)
	fails(t, "{a \\", api.ErrScript, 3)
}

// P5: ErrLabel.
func TestLabels(t *testing.T) {
	for _, c := range []struct {
		script string
		place  int
	}{
		// Twice.
		{":a;:a", 4}, {":a;: a", 5}, {":a\n:\t\ta", 6}, {":a;:b;: a", 8}, {":a;:b;:b;:a", 7}, {":12345678;:12345678", 11}, {"{:a};{:a}", 7}, {"{:a;{:a", 6}, {"ba;:a;:a", 7},
		{":a;:a k", 4}, {":a;:a;k", 4}, {":a;:a-", 4}, {":a;:a;:a", 4}, {":a;:a}", 4}, {":a;bx;:a", 7},
		// Nowhere.
		{"bx", 1}, {"b x", 2}, {"b  \tx ", 4}, {"tx", 1}, {"t x", 2}, {"1,2!b x", 6}, {"bx;by;:y", 1}, {"by;bx;:y", 4}, {"bx;ty", 1}, {"ty;bx", 1}, {"t  there;:their", 3}, {":a;bA", 4}, {":ab;ba", 5}, {":a;bab", 4}, {":a;b;t;ta;tb", 11}, {"{bx}", 2}, {"#:x\nbx", 5}, {"a :x\nb x", 7}, {"b 12345678;:1234567", 2},
	} {
		fails(t, c.script, api.ErrLabel, c.place)
		fails(t, "#n\np;"+c.script, api.ErrLabel, c.place+5)
	}
	// One that is nowhere is met only at the end; one that is there twice at once.
	fails(t, "bx;k", api.ErrScript, 3)
	fails(t, "bx;/(/p", api.ErrPattern, 5)
	fails(t, "bx;:a;:a", api.ErrLabel, 7)
	fails(t, ":a;:a;/(/p", api.ErrLabel, 4)
	fails(t, ":a;:a;}", api.ErrLabel, 4)
	fails(t, ":a;}:a", api.ErrNest, 3)
	fails(t, ":a;k;:a", api.ErrScript, 3)
	fails(t, ":a;1:a", api.ErrScript, 4)
	fails(t, ":a;!:a", api.ErrScript, 4)
	// A longer one that begins as one that is there is none of these.
	fails(t, ":12345678;:123456789", api.ErrScript, 19)
	fails(t, "b123456789", api.ErrScript, 9)
	compiles(t, ":a;:ab;:A;:aa;ba;bab;bA;taa", ": a\n: ab\n: A\n: aa\nb a\nb ab\nb A\nt aa\n", false)
}

// P2: a Program stays as it is, whatever becomes of what it was made of, or of others.
func TestProgramsApart(t *testing.T) {
	source := []byte("$!{s/(a)/\\1/gw f\n};a x")
	one, _, _ := Compile(string(source))
	for i := range source {
		source[i] = '#'
	}
	text := "$!{\ns/(a)/\\1/gw f\n}\na x\n"
	var group sync.WaitGroup
	for i := range 8 {
		group.Add(1)
		go func() {
			defer group.Done()
			label := string("abcdefgh"[i])
			for range 100 {
				other, err, _ := Compile("b " + label + ";:" + label)
				if err != api.OK || other.Text() != "b "+label+"\n: "+label+"\n" || other.Ahead() {
					t.Errorf("of the label %s: %d, %q", label, err, other.Text())
				}
				if _, err, place := Compile("b " + label); err != api.ErrLabel || place != 2 {
					t.Errorf("without the label %s: %d, %d", label, err, place)
				}
				if one.Text() != text || !one.Ahead() {
					t.Errorf("it changed: %q", one.Text())
				}
			}
		}()
	}
	group.Wait()
}

// P1: no call panics on what Compile gave, be it nothing.
func TestNoProgram(t *testing.T) {
	p, err, _ := Compile("k")
	if p != nil || err != api.ErrScript {
		t.Fatalf("Compile gave %v, %d", p != nil, err)
	}
	if p.Text() != "" || p.Ahead() {
		t.Errorf("nothing tells %q, %v", p.Text(), p.Ahead())
	}
}
