package ribbon

import (
	"math/rand"
	"slices"
	"strings"
	"sync"
	"testing"

	"ribbon/api"
)

// tells feeds pieces, and holds each against what must be told with it: in turn a piece, and what is told. Behind them comes the End.
func tells(t *testing.T, script string, steps []string, end api.Reply) {
	t.Helper()
	e := started(t, script)
	for i := 0; i < len(steps); i += 2 {
		if r := e.Feed(steps[i]); r != (api.Reply{Out: steps[i+1]}) {
			t.Errorf("P8: %q, piece %d of %.9q: %.80q, %v, %d, %d, want %.80q", script, i/2, steps, r.Out, r.Over, r.Err, r.Status, steps[i+1])
		}
		if r := e.Feed(""); r != (api.Reply{}) {
			t.Errorf("P8: %q, nothing behind piece %d of %.9q: %v", script, i/2, steps, r)
		}
	}
	for range 3 {
		if r := e.End(); r != end {
			t.Errorf("P8: %q, the end of %.9q: %.80q, %v, %d, %d, want %.80q, %v, %d, %d", script, steps, r.Out, r.Over, r.Err, r.Status, end.Out, end.Over, end.Err, end.Status)
		}
		end.Out = ""
		if r := e.Feed("x\ny\nz"); r != end {
			t.Errorf("P8: %q, behind the end of %.9q: %v, want %v", script, steps, r, end)
		}
	}
}

func over(out string) api.Reply {
	return api.Reply{Out: out, Over: true}
}

// P8: of a program of which Ahead is true a line is there with a byte behind its newline, or at the End.
func TestLinesThere(t *testing.T) {
	for _, c := range []struct {
		script string
		steps  []string
		end    string
	}{
		{"$p", []string{"a", "", "\n", "", "b", "a\n", "b", "", "\n", "", "c", "bb\n"}, "c\nc\n"},
		{"$p", []string{"a", "", "\n", "", "b", "a\n", "\n", ""}, "b\nb\n"},
		{"$p", []string{"a\n", "", "b\n", "a\n", "c\n", "b\n"}, "c\nc\n"},
		{"$p", []string{"a\nb\nc\nd", "a\nb\nc\n", "\n", ""}, "d\nd\n"},
		{"$p", []string{"\n", "", "\n", "\n", "\n", "\n", "a", "\n"}, "a\na\n"},
		{"$p", []string{"\n", ""}, "\n\n"},
		{"$p", []string{"", ""}, ""},
		{"$p", nil, ""},
		{"$!d", []string{"a\n", "", "b", "", "\n", ""}, "b\n"},
		{"$d", []string{"a\n", "", "b", "a\n", "\n", "", "\n", "b\n"}, ""},
		{"$=", []string{"a\nb", "a\n", "\n", ""}, "2\nb\n"},
		{"1,$d", []string{"a\nb", "", "\nc\n", ""}, ""},
		{"$,1p;i x", []string{"a\n", "", "b", "x\na\n"}, "b\nx\nb\n"},
		{"$!{h;d};x;G", []string{"a\n", "", "b\n", ""}, "a\nb\n"},
		// It is so whether such a command is done, or reached, or not.
		{"b;n", []string{"a\n", "", "b", "a\n", "\n", ""}, "b\n"},
		{"!N", []string{"a\n", "", "b", "a\n", "\n", ""}, "b\n"},
		{"9{$!{N}}", []string{"a\n", "", "b", "a\n", "\n", ""}, "b\n"},
		{"p;d;$x", []string{"a\n", "", "b", "a\n", "\n", ""}, "b\n"},
		{"w f\ns/a/b/p;N;d", []string{"a\n", "", "\n", "b\n"}, ""},
		// If Ahead is false, with its newline.
		{"p", []string{"a", "", "\n", "a\na\n", "b", "", "\nc\n", "b\nb\nc\nc\n", "d", ""}, "d\nd\n"},
		{"s/$/n/;/$/p;a $N", []string{"a", "", "\n", "an\nan\n$N\n"}, ""},
	} {
		tells(t, c.script, c.steps, over(c.end))
	}
	e := started(t, "$!q 5")
	for _, c := range []struct {
		in   string
		want api.Reply
	}{{"a", api.Reply{}}, {"\n", api.Reply{}}, {"\n", api.Reply{Out: "a\n", Over: true, Status: 5}}, {"b\nc", api.Reply{Over: true, Status: 5}}} {
		if r := e.Feed(c.in); r != c.want {
			t.Errorf("P8: Feed(%q) = %v, want %v", c.in, r, c.want)
		}
	}
}

// P8: an `n` tells with the first byte of the line that it wants, and goes on when that is there.
func TestNextWaits(t *testing.T) {
	for _, c := range []struct {
		script string
		steps  []string
		end    string
	}{
		{"n", []string{"a", "", "\n", "", "b", "a\n", "b", "", "\n", "", "c", "bb\n", "\n", "", "d", "c\n", "\n", ""}, "d\n"},
		{"n;s/^/x/", []string{"a", "", "\n", "", "b", "a\n", "b", "", "\n", "", "c", "xbb\n", "\n", "", "d", "c\n"}, "xd\n"},
		{"n;s/^/x/", []string{"a\nb\nc", "a\nxb\n", "\nd\n", "c\n", "e", "xd\n"}, "e\n"},
		{"n;s/^/x/", []string{"a\nb", "a\n", "b\nc", "xbb\n"}, "c\n"},
		{"n;s/^/x/", []string{"a\n\n", "a\n", "\n", "x\n", "\n", "\n"}, "x\n"},
		{"n;n", []string{"a\nb", "a\n", "\nc", "b\n", "\nd", "c\n", "\ne", "d\n", "\nf", "e\n", "\ng", "f\n"}, "g\n"},
		{"n;p;n;p", []string{"a\nb\n", "a\n", "c", "b\nb\n", "\n", "", "d", "c\nc\n"}, "d\n"},
		{"a x\nn", []string{"a", "", "\n", "", "b", "a\nx\n", "\n", "", "c", "b\n", "\n", "", "d", "c\nx\n"}, "d\n"},
		{"a x\na y\nn;a z", []string{"a\nb", "a\nx\ny\n", "\n", "", "c", "b\nz\n"}, "c\nx\ny\n"},
		{"i x\nn", []string{"a\n", "", "b", "x\na\n", "\n", "", "c", "b\n"}, "x\nc\n"},
		{"i x\na y\nn;i z", []string{"a\n", "", "b", "x\na\ny\n", "\n", "", "c", "z\nb\n"}, "x\nc\ny\n"},
		{"s/a/z/p;n;t\ns/^/x/", []string{"a\nb", "z\nz\n", "\nc", "b\n", "\n", "", "d", "c\n"}, "xd\n"},
		{"#n\nn;p", []string{"a\nb", "", "\n", "", "c", "b\n", "\nd", ""}, "d\n"},
		{"#n\na x\nn;p", []string{"a\nb", "x\n", "\n", "", "c", "b\n", "\nd", "x\n"}, "d\n"},
		{"#n\ni x\nn", []string{"a\nb", "x\n", "\nc", ""}, "x\n"},
		{"2n;s/^/x/", []string{"a\n", "", "b", "xa\n", "\n", "", "c", "b\n", "\n", "", "d", "xc\n"}, "xd\n"},
		{"2{n;{n}};s/^/x/", []string{"a\nb\nc", "xa\nb\n", "\nd", "c\n", "\ne", "xd\n"}, "xe\n"},
		{"/b/,/d/n;s/^/x/", []string{"a\nb\nc", "xa\nb\n", "\nd\n", "xc\n", "e", "d\n", "\n", "", "b", "xe\n", "\n", "", "c", "b\n"}, "xc\n"},
		{"$!n;s/^/x/", []string{"a\n", "", "b", "a\n", "\n", "", "c", "xb\n"}, "xc\n"},
		{":a;n;ba", []string{"a\n", "", "b", "a\n", "\n", "", "c\nd", "b\nc\n"}, "d\n"},
		{"n;d", []string{"a\nb\nc\nd\ne", "a\nc\n", "\n", ""}, "e\n"},
		{"=;n;=", []string{"a\nb", "1\na\n", "\nc", "2\nb\n"}, "3\nc\n"},
		{"/,/!n;s/,/\\n/;P;D", []string{"a\nb,c", "a\n", "\nd", "b\nc\n", "\n", "", "e", "d\n"}, "e\n"},
	} {
		tells(t, c.script, c.steps, over(c.end))
	}
}

// P8: an `N` tells what `a` brought with the first byte of the line that it wants, and goes on when that is there.
func TestNextBehindWaits(t *testing.T) {
	for _, c := range []struct {
		script string
		steps  []string
		end    string
	}{
		{"N;s/\\n/+/", []string{"a", "", "\n", "", "b", "", "b", "", "\n", "", "c", "a+bb\n", "\n", "", "d", "", "\n", ""}, "c+d\n"},
		{"N;s/\\n/+/", []string{"a\nb\nc", "a+b\n", "\nd\n", "", "e", "c+d\n"}, "e\n"},
		{"N;s/\\n/+/", []string{"a\n\n", "", "\n", "a+\n", "\n", ""}, "+\n"},
		{"N;N;s/\\n/+/g", []string{"a\nb", "", "\nc", "", "\n", "", "d", "a+b+c\n"}, "d\n"},
		{"p;N;p;N;p;d", []string{"a\nb", "a\n", "\n", "", "c", "a\nb\n", "\n", "", "d", "a\nb\nc\n"}, "d\nd\n"},
		{"a x\nN;s/\\n/+/", []string{"a", "", "\n", "", "b", "x\n", "b", "", "\n", "", "c", "a+bb\n", "\n", "", "\n", "x\n"}, "c+\n"},
		{"a x\na y\nN;a z\ns/\\n/+/", []string{"a\n", "", "b", "x\ny\n", "\n", "", "c", "a+b\nz\n"}, "c\nx\ny\n"},
		{"a x\nN;a y\nN;s/\\n/+/g", []string{"a\nb", "x\n", "\nc", "y\n", "\nd", "a+b+c\n"}, "d\nx\n"},
		{"i x\nN;P;D", []string{"a\nb", "x\n", "\nc\n", "a\nx\n", "d", "b\nx\n"}, "c\nx\nd\n"},
		{"s/a/z/p;N;t\ns/\\n/+/", []string{"a\nb", "z\n", "\nc", "z\nb\n", "\n", "", "d", "", "\ne", "c+d\n"}, "e\n"},
		{"#n\nN;p", []string{"a\nb", "", "\n", "", "c", "a\nb\n", "\nd", ""}, "c\nd\n"},
		{"#n\na x\nN;p", []string{"a\nb", "x\n", "\n", "", "c", "a\nb\n", "\nd", "x\n"}, "c\nd\n"},
		{"2N;s/\\n/+/", []string{"a\n", "", "b", "a\n", "\n", "", "c", "", "\n", "", "d", "b+c\n"}, "d\n"},
		{"2{{N};N\n};s/\\n/+/g", []string{"a\nb\nc", "a\n", "\nd", "", "\ne", "b+c+d\n"}, "e\n"},
		{"/b/,/d/N;s/\\n/+/", []string{"a\nb\nc", "a\n", "\nd\n", "b+c\n", "e", "", "\n", "", "f", "d+e\n"}, "f\n"},
		{"$!N;P;D", []string{"a\nb", "", "\n", "", "c", "a\n", "\n", "", "d", "b\n"}, "c\nd\n"},
		{"N;P;D", []string{"a\nb", "", "\n", "", "c", "a\n", "\n", "", "d", "b\n"}, "c\nd\n"},
		{"a x\nN;P;D", []string{"a\nb", "x\n", "\n", "", "c", "a\nx\n", "\n", "", "d", "b\nx\n"}, "c\nd\nx\n"},
		{":a;$!{N;ba\n};s/\\n/,/g", []string{"a\n", "", "b", "", "\n", "", "c\nd", ""}, "a,b,c,d\n"},
		{"n;N;s/\\n/+/", []string{"a\nb", "a\n", "\nc", "", "\nd", "b+c\n", "\ne", "d\n"}, "e\n"},
		{"N;n;s/^/x/", []string{"a\nb", "", "\nc", "a\nb\n", "\nd", "xc\n"}, "d\n"},
	} {
		tells(t, c.script, c.steps, over(c.end))
	}
}

// P8: an End, or a `q`, while an `n` or `N` waits.
func TestEndWhileItWaits(t *testing.T) {
	for _, c := range []struct {
		script string
		steps  []string
		end    string
	}{
		{"n;s/^/x/", []string{"a\nb", "a\n"}, "xb\n"}, {"n;s/^/x/", []string{"a\nb\n", "a\n"}, "xb\n"}, {"n;s/^/x/", []string{"a\n\n", "a\n"}, "x\n"}, {"n;s/^/x/", []string{"\n\n", "\n"}, "x\n"}, {"n;s/^/x/;a y", []string{"a\nb", "a\n"}, "xb\ny\n"}, {"a y\nn;s/^/x/", []string{"a\nb", "a\ny\n"}, "xb\n"}, {"n;d", []string{"a\nb", "a\n"}, ""}, {"n;$p;$!d", []string{"a\nb", "a\n"}, "b\nb\n"},
		{"n;n;s/^/x/", []string{"a\nb", "a\n"}, "b\n"}, {"n;n;s/^/x/", []string{"a\nb\nc", "a\nb\n"}, "xc\n"}, {"n;a y\nn;s/^/x/", []string{"a\nb", "a\n"}, "b\ny\n"}, {"n;N;s/^/x/", []string{"a\nb", "a\n"}, "b\n"}, {"#n\nn;p", []string{"a\nb", ""}, "b\n"}, {"#n\nn;a y\nn;p", []string{"a\nb", ""}, "y\n"}, {":a;n;s/^/x/;ba", []string{"a\nb\nc", "a\nxb\n"}, "xc\n"},
		{"N;s/\\n/+/", []string{"a\nb", ""}, "a+b\n"}, {"N;s/\\n/+/", []string{"a\nb\n", ""}, "a+b\n"}, {"N;s/\\n/+/", []string{"a\n\n", ""}, "a+\n"}, {"N;s/\\n/+/", []string{"\n\n", ""}, "+\n"}, {"N;s/\\n/+/;a y", []string{"a\nb", ""}, "a+b\ny\n"}, {"a y\nN;s/\\n/+/", []string{"a\nb", "y\n"}, "a+b\n"}, {"N;d", []string{"a\nb", ""}, ""}, {"N;$p;$!d", []string{"a\nb", ""}, "a\nb\na\nb\n"},
		{"N;N;s/\\n/+/g", []string{"a\nb", ""}, "a\nb\n"}, {"N;N;s/\\n/+/g", []string{"a\nb\nc", ""}, "a+b+c\n"}, {"N;a y\nN;s/^/x/", []string{"a\nb", ""}, "a\nb\ny\n"}, {"N;n;s/^/x/", []string{"a\nb", ""}, "a\nb\n"}, {"#n\nN;p", []string{"a\nb", ""}, "a\nb\n"}, {"#n\nN;a y\nN;p", []string{"a\nb", ""}, "y\n"}, {":a;N;ba", []string{"a\nb\nc", ""}, "a\nb\nc\n"}, {"N;P;D", []string{"a\nb", ""}, "a\nb\n"}, {"$!N;D", []string{"a\nb", ""}, ""},
	} {
		tells(t, c.script, c.steps, over(c.end))
	}
	tells(t, "n;q 7", []string{"a\nb", "a\n"}, api.Reply{Out: "b\n", Over: true, Status: 7})
	tells(t, "N;q 7", []string{"a\nb\n", ""}, api.Reply{Out: "a\nb\n", Over: true, Status: 7})
	tells(t, "n;n;q 7", []string{"a\nb\n", "a\n"}, over("b\n"))
	for _, c := range []struct{ script, first, last string }{{"n;q 7", "a\n", "b\n"}, {"N;q 7", "", "a\nb\n"}, {"a x\nN;q 7", "x\n", "a\nb\n"}, {"#n\nn;p;q 7", "", "b\n"}, {"n;a x\nq 7", "a\n", "b\nx\n"}} {
		e := started(t, c.script)
		for _, f := range []struct {
			in   string
			want api.Reply
		}{{"a\nb", api.Reply{Out: c.first}}, {"\n", api.Reply{}}, {"c", api.Reply{Out: c.last, Over: true, Status: 7}}, {"\nd", api.Reply{Over: true, Status: 7}}} {
			if r := e.Feed(f.in); r != f.want {
				t.Errorf("P8: %q, Feed(%q) = %v, want %v", c.script, f.in, r, f.want)
			}
		}
		if r := e.End(); r != (api.Reply{Over: true, Status: 7}) {
			t.Errorf("P8: %q, End = %v", c.script, r)
		}
	}
}

// P8: ErrLine, where an `n` or `N` wants a line.
func TestNextLineTooLong(t *testing.T) {
	line := repeat("a", api.MaxLine)
	for _, c := range []struct{ script, told, all string }{
		{"n", "b\n", "b\n" + line + "\n"}, {"N;s/\\n/+/", "", "b+" + line + "\n"}, {"a x\nn", "b\nx\n", "b\nx\n" + line + "\n"}, {"a x\nN", "x\n", "x\nb\n" + line + "\n"}, {"#n\nn;p", "", line + "\n"}, {"#n\na x\nn;p", "x\n", "x\n" + line + "\n"}, {"#n\na x\nN", "x\n", "x\n"}, {"i y\na x\nN", "y\nx\n", "y\nx\nb\n" + line + "\n"}, {"i y\nn", "y\nb\n", "y\nb\n" + line + "\n"}, {"p;N;p;d", "b\n", "b\nb\n" + line + "\n"}, {"$!N;s/^/x/", "", "xb\n" + line + "\n"}, {"{$!{n}};s/^/x/", "b\n", "b\nx" + line + "\n"}, {"n;d", "b\n", "b\n"}, {"N;d", "", ""}, {"s/b/c/p;N", "c\n", "c\nc\n" + line + "\n"},
	} {
		// As long as it may be: complete or not, there or not.
		goesOn(t, c.script, "b\n"+line, c.told)
		goesOn(t, c.script, "b\n"+line+"\n", c.told)
		goesOn(t, c.script, "b\n"+line+"\nc", c.all)
		gives(t, c.script, []string{"b\n" + line}, over(c.all))
		gives(t, c.script, []string{"b\n" + line, "\n"}, over(c.all))
		// One byte more.
		for _, rest := range []string{"a", "a\n", "a\nc", "a\nc\n", line, line + line + "\n"} {
			overBy(t, c.script, "b\n"+line+rest, c.told, api.ErrLine)
		}
		// It is as soon as that.
		steps := append([]string{"b\n", "", "a", c.told}, slices.Repeat([]string{"a", ""}, api.MaxLine-1)...)
		tells(t, c.script, steps, over(c.all[len(c.told):]))
		e := started(t, c.script)
		e.Feed("b\n" + line)
		if r := e.Feed("a"); r != (api.Reply{Over: true, Err: api.ErrLine}) {
			t.Errorf("P8: %q: %v, want error %d", c.script, r, api.ErrLine)
		}
	}
	// The line behind one that was read so.
	overBy(t, "n;n", "b\nc\n"+line+"a", "b\nc\n", api.ErrLine)
	overBy(t, "N;N", "b\nc\n"+line+"a", "", api.ErrLine)
	overBy(t, "N;a x\nN", "b\nc\n"+line+"a", "x\n", api.ErrLine)
	overBy(t, "$d", "b\nc\n"+line+"a", "b\nc\n", api.ErrLine)
	overBy(t, "n", "b\nc\n"+line+"a", "b\nc\n", api.ErrLine)
	overBy(t, "$d", line+"a", "", api.ErrLine)
	overBy(t, "n", line+"a", "", api.ErrLine)
	// What is written counts as told ahead of it.
	if f := overBy(t, "w f\nN;w f", "b\n"+line+"a", "", api.ErrLine).Files(); f[0].Text != "b\n" {
		t.Errorf("P9: Files = %.80q", f)
	}
	// A line that is not wanted may have any length.
	breaks(t, "q 5;n", "b\n"+line+"a", api.Reply{Out: "b\n", Over: true, Status: 5})
	breaks(t, "n;q 5", "b\nc\n"+line+"a", api.Reply{Out: "b\nc\n", Over: true, Status: 5})
	breaks(t, "N;q 5", "b\nc\n"+line+"a", api.Reply{Out: "b\nc\n", Over: true, Status: 5})
	breaks(t, "$!{s/b/c/;q 5\n}", "b\n"+line+"a\n", api.Reply{Out: "c\n", Over: true, Status: 5})
	overBy(t, "$!{:a;ba\n}", "b\n"+line+"a\n", "", api.ErrSteps)
}

// P8: ErrSpace, by an `N`.
func TestNextBehindTooLarge(t *testing.T) {
	a := func(times int) string { return repeat("a", times) }
	line := a(1000) + "\n"
	for _, c := range []struct {
		script string
		behind int // how long the next line may be
		told   string
	}{
		{"s/.*/&&&&/;s/a//;N", 0, ""}, {"s/.*/&&&&/;s/aa//;N", 1, ""}, {"s/.*/&&&&/;s/a{11}//;$!N", 10, ""}, {"s/.*/&&&/;N", 999, ""}, {"s/.*/&&&/;p;a x\nN", 999, a(3000) + "\nx\n"}, {"s/.*/&&&/;i x\na y\nN", 999, "x\ny\n"}, {"#n\ns/.*/&&&/;p;N", 999, a(3000) + "\n"},
	} {
		in := line + a(c.behind)
		goesOn(t, c.script, in, c.told)
		goesOn(t, c.script, in+"\n", c.told)
		goesOn(t, c.script+";d", in+"\nb", c.told)
		gives(t, c.script+";d", []string{in, "\n"}, over(c.told))
		// One byte more is too much when the line is there: with a byte behind its newline, or at the End.
		in += "a\n"
		goesOn(t, c.script, in, c.told)
		overBy(t, c.script, in+"b", c.told, api.ErrSpace)
		overBy(t, c.script, in+"\n\n", c.told, api.ErrSpace)
		tells(t, c.script, []string{line, "", in[len(line):], c.told}, api.Reply{Over: true, Err: api.ErrSpace})
	}
	overBy(t, "s/.*/&&&&/;N", line+"\nb", "", api.ErrSpace)
	overBy(t, "s/.*/&&&&/;N", line+line+"b", "", api.ErrSpace)
	overBy(t, "s/.*/&&&/;N;a never", line+line+"b", "", api.ErrSpace)
	// One behind the other.
	all := repeat(a(999)+"\n", 4)
	gives(t, ":a;N;ba", []string{all}, over(all))
	gives(t, ":a;N;ba", []string{all + "\n"}, over(all+"\n"))
	goesOn(t, ":a;N;ba", all+"\n\n", "")
	overBy(t, ":a;N;ba", all+"\n\nb", "", api.ErrSpace)
	gives(t, ":a;N;ba", []string{all + "a"}, api.Reply{Over: true, Err: api.ErrSpace})
	// A line that is too long is so ahead of that; what `n` reads comes behind nothing.
	overBy(t, "s/.*/&&&&/;N", line+a(1001), "", api.ErrLine)
	goesOn(t, "s/.*/&&&&/;n", line+line+"b", a(4000)+"\n"+line)
	if f := overBy(t, "s/.*/&&&&/;w f\nN;w f", line+"\nb", "", api.ErrSpace).Files(); f[0].Text != a(4000)+"\n" {
		t.Errorf("P9: Files = %.80q", f)
	}
}

// P8: ErrOut, by what an `n` or `N` tells ahead of the line that it wants, and behind it.
func TestNextTellsTooMuch(t *testing.T) {
	for _, c := range []struct {
		script string // of a line b
		told   string // by this, with the first byte of the next line
		before string // told of it, if there is one byte less
	}{
		{"n", "b\n", ""}, {"n;d", "b\n", ""}, {"a xy\nn", "b\nxy\n", "b\n"}, {"a x\na y\nn", "b\nx\ny\n", "b\nx\n"}, {"a xy\nN", "xy\n", ""}, {"a x\na y\nN", "x\ny\n", "x\n"}, {"p;n", "b\nb\n", "b\n"}, {"i x\nn", "x\nb\n", "x\n"}, {"p;N", "b\n", ""}, {"s/$/\\nc/;n", "b\nc\n", ""}, {"$!n", "b\n", ""}, {"{{n}}", "b\n", ""},
	} {
		script := "/b/!b\n" + c.script
		in, told := filling(api.MaxOut - len(c.told))
		goesOn(t, script, in+"b\nc", told+c.told)
		in, told = filling(api.MaxOut - len(c.told) + 1)
		goesOn(t, script, in+"b\n", told)
		overBy(t, script, in+"b\nc", told+c.before, api.ErrOut)
		overBy(t, script, in+"b\n\nd\n", told+c.before, api.ErrOut)
		// It is so ahead of a line that is too long.
		overBy(t, script, in+"b\n"+repeat("c", api.MaxLine+1), told+c.before, api.ErrOut)
	}
	for _, c := range []struct {
		script string // of lines b and c
		told   string // by this, all of it
		before string
	}{
		{"n", "b\nc\n", "b\n"}, {"N", "b\nc\n", ""}, {"n;p", "b\nc\nc\n", "b\nc\n"}, {"a x\nN", "x\nb\nc\n", "x\n"}, {"n;a x", "b\nc\nx\n", "b\nc\n"}, {"n;n", "b\nc\n", "b\n"}, {"N;N", "b\nc\n", ""}, {"n;q 5", "b\nc\n", "b\n"}, {"N;q 5", "b\nc\n", ""}, {"N;P;D", "b\nc\n", "b\n"}, {"N;l;d", "b\\nc$\n", ""}, {"n;=;d", "b\n203\n", "b\n"},
	} {
		script := "/b|c/!b\n" + c.script
		status := 0
		if strings.Contains(script, "q 5") {
			status = 5
		}
		in, told := filling(api.MaxOut - len(c.told))
		gives(t, script, []string{in, "b\nc"}, api.Reply{Out: told + c.told, Over: true, Status: status})
		in, told = filling(api.MaxOut - len(c.told) + 1)
		gives(t, script, []string{in, "b\nc"}, api.Reply{Out: told + c.before, Over: true, Err: api.ErrOut})
		gives(t, script, []string{in + "b\nc\n"}, api.Reply{Out: told + c.before, Over: true, Err: api.ErrOut})
	}
	// By no line more.
	in, told := filling(api.MaxOut - 3)
	gives(t, "/b/{a x\nN\n}", []string{in + "b"}, api.Reply{Out: told + "b\n", Over: true, Err: api.ErrOut})
	gives(t, "/b/{a x\nn\n}", []string{in + "b"}, api.Reply{Out: told + "b\n", Over: true, Err: api.ErrOut})
	in, told = filling(api.MaxOut)
	goesOn(t, "$!{/b/N\n};/b/d", in+"b\n\n\n", told)
	// A quiet one tells nothing of the space.
	in, _ = filling(api.MaxOut)
	goesOn(t, "#n\nw f\n/b/!b\nn;N", in, "")
	overBy(t, "#n\n/b/!{w f\nb\n}\na x\nn", in+"b\nc", "", api.ErrOut)
	goesOn(t, "#n\n/b/!{w f\nb\n}\nn;d", in+"b\nc\nd", "")
}

// P8: ErrSteps: a line that is read in the middle of a cycle does not begin one, and waiting for it is no step.
func TestStepsAhead(t *testing.T) {
	in := "y\n"
	// Two steps a line; the last of 1000 ends it by the 1999th.
	gives(t, ":a;n;ba", []string{repeat(in, 1000)}, over(repeat(in, 1000)))
	goesOn(t, ":a;n;ba", repeat(in, 1001), repeat(in, 1000))
	overBy(t, ":a;n;ba", repeat(in, 1001)+"z", repeat(in, 1000), api.ErrSteps)
	gives(t, ":a;n;ba", []string{repeat(in, 1001)}, api.Reply{Out: repeat(in, 1000), Over: true, Err: api.ErrSteps})
	overBy(t, ":a;N;s/.*\\n//;ba", repeat(in, 668)+"z", "", api.ErrSteps)
	goesOn(t, ":a;N;s/.*\\n//;ba", repeat(in, 667), "")
	// Nor does a line that is read in a cycle that began without one.
	overBy(t, "N;P;D", repeat(in, 669), repeat(in, 667), api.ErrSteps)
	goesOn(t, "N;P;D", repeat(in, 668), repeat(in, 666))
	// A cycle that reads its own does.
	goesOn(t, "n", repeat(in, 3000)+"y", repeat(in, 3000))
	goesOn(t, "N", repeat(in, 3001), repeat(in, 3000))
	// What is behind a line that is waited for is counted on.
	goesOn(t, loop()+repeat("2=;", 96)+"1N;1n;2=", in+"z\n", "")
	goesOn(t, loop()+repeat("2=;", 96)+"1N;1n;2=", in+"z\nz", "2\ny\nz\n")
	overBy(t, loop()+repeat("2=;", 96)+"1N;1n;2=;2=", in+"z\nz", "2\n", api.ErrSteps)
	overBy(t, loop()+repeat("2=;", 96)+"1n;1N;2=;2=", in+"z\nz", "y\n2\n", api.ErrSteps)
	overBy(t, loop()+repeat("$=;", 98)+"a x\nN;$=", in+"z", "", api.ErrSteps)
	overBy(t, loop()+repeat("$=;", 97)+"a x\nN;$=", in+"z\nz", "x\n", api.ErrSteps)
}

// P9: what was written when a command waits; P8: and it goes on.
func TestFilesWhileItWaits(t *testing.T) {
	e := started(t, "w f\nn;w g\nN;w f")
	for _, c := range []struct{ in, out, f, g string }{{"a\n", "", "", ""}, {"b", "a\n", "a\n", ""}, {"\n", "", "a\n", ""}, {"c", "", "a\n", "b\n"}, {"\n", "", "a\n", "b\n"}, {"d", "b\nc\n", "a\nb\nc\n", "b\n"}} {
		if r := e.Feed(c.in); r != (api.Reply{Out: c.out}) {
			t.Errorf("P8: Feed(%q) = %v, want %q", c.in, r, c.out)
		}
		if f := e.Files(); !slices.Equal(f, []api.File{{Name: "f", Text: c.f}, {Name: "g", Text: c.g}}) {
			t.Errorf("P9: behind %q: %q", c.in, f)
		}
	}
	if r := e.End(); r != over("d\n") {
		t.Errorf("P8: End = %v", r)
	}
	if f := e.Files(); !slices.Equal(f, []api.File{{Name: "f", Text: lines("a b c d")}, {Name: "g", Text: "b\n"}}) {
		t.Errorf("P9: at the end: %q", f)
	}
}

// P2: editors of one program that wait at the same time are apart.
func TestWaitingApart(t *testing.T) {
	p, _, _ := Compile("a x\nn;h;s/b/z/;N;t\nG;s/\\n/,/g;w f")
	feeds := func(e *Editor, data, out string) {
		t.Helper()
		if r := e.Feed(data); r != (api.Reply{Out: out}) {
			t.Errorf("P2: Feed(%q) = %v, want %q", data, r, out)
		}
	}
	ends := func(e *Editor, out, file string) {
		t.Helper()
		if r := e.End(); r != over(out) {
			t.Errorf("P2: End = %v, want %q", r, out)
		}
		if f := e.Files(); !slices.Equal(f, []api.File{{Name: "f", Text: file}}) {
			t.Errorf("P2: Files = %q, want %q", f, file)
		}
	}
	first, second, third := p.Start(), p.Start(), p.Start()
	feeds(first, "a\nb", "a\nx\n")
	feeds(second, "k\nl\nm", "k\nx\n")
	feeds(first, "\nc", "")
	feeds(third, "1\n", "")
	ends(second, "l,m,l\n", "l,m,l\n")
	feeds(third, "2", "1\nx\n")
	feeds(first, "\nd\n", "z\nc\n")
	feeds(third, "\n3\n4", "2,3,2\n")
	feeds(first, "e", "d\nx\n")
	ends(third, "4\nx\n", "2,3,2\n")
	ends(first, "e\n", "")
	if p.Text() != "a x\nn\nh\ns/b/z/\nN\nt\nG\ns/\\n/,/g\nw f\n" || !p.Ahead() {
		t.Errorf("P2: the program changed: %q", p.Text())
	}
	var all sync.WaitGroup
	for range 8 {
		all.Go(func() {
			for range 30 {
				e := p.Start()
				feeds(e, "a\nb", "a\nx\n")
				feeds(e, "\nc\n", "")
				ends(e, "z\nc\n", "")
			}
		})
	}
	all.Wait()
}

// P1: scripts that are none give no editor, and none panics.
func TestNoNext(t *testing.T) {
	for _, c := range []struct {
		script string
		err    api.Errno
		place  int
	}{
		{"n3", api.ErrScript, 1}, {"n 3", api.ErrScript, 2}, {"N a", api.ErrScript, 2}, {"nN", api.ErrScript, 1}, {"n,p", api.ErrScript, 1}, {"$", api.ErrScript, 1}, {"$$n", api.ErrScript, 1}, {"$,n", api.ErrScript, 2}, {"$,$,$N", api.ErrScript, 3}, {"$1p", api.ErrScript, 1}, {"!$n", api.ErrScript, 1}, {"${n", api.ErrNest, 3}, {"$}", api.ErrScript, 1}, {"n}", api.ErrNest, 1}, {"$:a", api.ErrScript, 1}, {"n;b x", api.ErrLabel, 4}, {"$!bx", api.ErrLabel, 3}, {"N{", api.ErrScript, 1},
	} {
		fails(t, c.script, c.err, c.place)
		p, _, _ := Compile(c.script)
		e := p.Start()
		if a, b := e.Feed("a\nb"), e.End(); a.Out != "" || b.Out != "" || len(e.Files()) != 0 {
			t.Errorf("P1: %q: %v, %v, %v", c.script, a, b, e.Files())
		}
	}
}

// P10: what was told behind any beginning of an input, and what was written then, does not hang on the pieces; and of a program of which Ahead is true nothing is told but with a byte behind a newline.
func TestToldBehindEachByte(t *testing.T) {
	s := &scribe{Rand: rand.New(rand.NewSource(9)), ahead: true}
	asked, told, waited := 0, 0, 0
	for range 4000 {
		p, err, _ := Compile(source(s.script(), s.Intn(4) == 0))
		input := s.input()
		if err != api.OK || len(input) > 60 {
			continue
		}
		asked++
		e := p.Start()
		out := ""
		for i := range len(input) {
			r := e.Feed(input[i : i+1])
			out += r.Out
			if p.Ahead() && r.Out != "" && (i == 0 || input[i-1] != '\n') {
				t.Fatalf("P8: %q of %q: byte %d tells %q", p.Text(), input, i, r.Out)
			}
			if !p.Ahead() && r.Out != "" && input[i] != '\n' {
				t.Fatalf("P8: %q of %q: byte %d tells %q", p.Text(), input, i, r.Out)
			}
			whole := p.Start()
			cut := s.Intn(i + 2)
			want := whole.Feed(input[:cut]).Out
			last := whole.Feed(input[cut : i+1])
			want += last.Out
			if out != want || last.Over != r.Over || last.Err != r.Err || last.Status != r.Status || !slices.Equal(e.Files(), whole.Files()) {
				t.Fatalf("P10: %q of %q, byte by byte: %q, %v, %q, want %q, %v, %q", p.Text(), input[:i+1], out, r, e.Files(), want, last, whole.Files())
			}
			if out != "" {
				told++
			}
		}
		if r := e.End(); r.Out != "" && r.Err == api.OK {
			waited++
		}
	}
	t.Logf("%d asked, %d told, %d waited", asked, told, waited)
	if asked < 3000 || told < 10000 || waited < 1000 {
		t.Errorf("too few were tried: %d asked, %d told, %d waited", asked, told, waited)
	}
}

// P10: if Ahead is false, what was told behind a Feed is what is told of all lines that are complete.
func TestToldOfCompleteLines(t *testing.T) {
	s := &scribe{Rand: rand.New(rand.NewSource(10))}
	for range 500 {
		p, err, _ := Compile(source(s.script(), s.Intn(4) == 0))
		input := s.input()
		if err != api.OK || p.Ahead() || len(input) > 60 {
			continue
		}
		for i := range len(input) + 1 {
			e := p.Start()
			got := e.Feed(input[:i])
			want := goneOver(p, []string{input[:strings.LastIndexByte(input[:i], '\n')+1]})
			if got.Out != want.last.Out || got.Err != want.last.Err || got.Status != want.last.Status || !slices.Equal(e.Files(), want.files) {
				t.Fatalf("P10: %q fed with %q: %v, %v, want %v", p.Text(), input[:i], got, e.Files(), want)
			}
		}
	}
}
