package ribbon

import (
	"strings"
	"testing"

	"ribbon/api"
)

// breaks holds an editor that is fed with an input against the answer of this Feed, and against that of all later calls, if it is over.
func breaks(t *testing.T, script, input string, want api.Reply) *Editor {
	t.Helper()
	e := started(t, script)
	same := func(what string, got, want api.Reply) {
		t.Helper()
		if got != want {
			t.Errorf("P8: %.60q, %s: %d bytes %.60q, %v, %d, %d, want %d bytes %.60q, %v, %d, %d", script, what, len(got.Out), got.Out, got.Over, got.Err, got.Status, len(want.Out), want.Out, want.Over, want.Err, want.Status)
		}
	}
	same("in one piece", e.Feed(input), want)
	same("in many pieces", inPieces(t, script, input), want)
	if want.Over {
		want.Out = ""
		for range 2 {
			same("behind the end", e.Feed("x\n"), want)
			same("behind the end", e.End(), want)
		}
	}
	return e
}

// inPieces feeds byte by byte, or by more where that would take long, until it is over.
func inPieces(t *testing.T, script, input string) api.Reply {
	t.Helper()
	length := 1 + len(input)/2500
	e := started(t, script)
	var out strings.Builder
	var last api.Reply
	for len(input) > 0 && !last.Over {
		n := min(length, len(input))
		last = e.Feed(input[:n])
		out.WriteString(last.Out)
		input = input[n:]
	}
	last.Out = out.String()
	return last
}

func goesOn(t *testing.T, script, input, out string) {
	t.Helper()
	breaks(t, script, input, api.Reply{Out: out})
}

func overBy(t *testing.T, script, input, out string, err api.Errno) *Editor {
	t.Helper()
	return breaks(t, script, input, api.Reply{Out: out, Over: true, Err: err})
}

// loop is the beginning of a script that does 98 commands 19 times over, and takes 1901 steps for it: one for the first `s`, and each time two more than these commands.
func loop() string {
	return "s/^/" + repeat("-", 18) + "/;:a;" + repeat("x;", 98) + "s/-//;ta;"
}

// P8: ErrSteps.
func TestSteps(t *testing.T) {
	in := "y\n"
	goesOn(t, loop()+repeat("=;", 99), in, repeat("1\n", 99)+in)
	overBy(t, loop()+repeat("=;", 100), in, repeat("1\n", 99), api.ErrSteps)
	// `}` and `:` are no steps, `{` is one.
	goesOn(t, loop()+":b;{"+repeat("=;", 98)+"};:c", in, repeat("1\n", 98)+in)
	overBy(t, loop()+":b;{"+repeat("=;", 99)+"};:c", in, repeat("1\n", 98), api.ErrSteps)
	// What is not done was looked at; what is not reached was not.
	goesOn(t, loop()+repeat("2=;", 50)+repeat("1!=;", 49), in, in)
	overBy(t, loop()+repeat("2=;", 50)+repeat("1!=;", 50), in, "", api.ErrSteps)
	goesOn(t, loop()+"2{"+repeat("=;", 150)+"};"+repeat("=;", 98), in, repeat("1\n", 98)+in)
	overBy(t, loop()+"2{"+repeat("=;", 150)+"};"+repeat("=;", 99), in, repeat("1\n", 98), api.ErrSteps)
	goesOn(t, loop()+"b end\n"+repeat("=;", 150)+":end;"+repeat("=;", 98), in, repeat("1\n", 98)+in)
	overBy(t, loop()+"b end\n"+repeat("=;", 150)+":end;"+repeat("=;", 99), in, repeat("1\n", 98), api.ErrSteps)
	overBy(t, loop()+repeat("=;", 99)+"q 5", in, repeat("1\n", 99), api.ErrSteps)
	overBy(t, loop()+repeat("=;", 99)+"d", in, repeat("1\n", 99), api.ErrSteps)
	// Each line that a cycle reads has its own steps.
	goesOn(t, loop()+repeat("2=;", 99), repeat(in, 4), in+repeat("2\n", 99)+repeat(in, 3))
	overBy(t, loop()+repeat("2=;", 100), repeat(in, 4), "", api.ErrSteps)
	// A cycle that reads no line has not.
	goesOn(t, "s/,/\\n/g;/\\n/D", repeat(",", 999)+"z\n", "z\n")
	goesOn(t, "s/,/\\n/g;/\\n/D", repeat(repeat(",", 999)+"z\n", 3), "z\nz\nz\n")
	overBy(t, "s/,/\\n/g;/\\n/D", repeat(",", 1000)+"\n", "", api.ErrSteps)
	overBy(t, "=;s/^/\\n/;D", "x\n", repeat("1\n", 667), api.ErrSteps)
	overBy(t, "=;=;s/^/\\n/;D", "x\n", repeat("1\n", 1000), api.ErrSteps)
	// What was told ahead is told; what was brought is not, nor the space.
	overBy(t, ":a;b a", "x\n", "", api.ErrSteps)
	overBy(t, "p;:a;b a", "x\n", "x\n", api.ErrSteps)
	overBy(t, "a never\ni y\n:a;b a", "x\nz\n", "y\n", api.ErrSteps)
	overBy(t, "2{:a;b a\n}", "x\nz\nx\n", "x\n", api.ErrSteps)
	// Each of these steps looks for 4000 places, with a way to the end of the space from each; they end soon all the same.
	if r := started(t, "s/.*/&&&&/;:a;s/a|a.*b/a/g;ba").Feed(repeat("a", 1000) + "\n"); r != (api.Reply{Over: true, Err: api.ErrSteps}) {
		t.Errorf("P8: %d, %v, want error %d", r.Err, r.Over, api.ErrSteps)
	}
	// By an End, too.
	gives(t, "p;:a;b a", []string{"x"}, api.Reply{Out: "x\n", Over: true, Err: api.ErrSteps})
}

// P8: ErrSpace.
func TestSpace(t *testing.T) {
	a := func(times int) string { return repeat("a", times) }
	line := a(1000) + "\n"
	// By `s`.
	goesOn(t, "s/.*/&&&&/", line, a(4000)+"\n")
	overBy(t, "s/.*/&&&&b/", line, "", api.ErrSpace)
	goesOn(t, "s/a/&&&&/g", line, a(4000)+"\n")
	overBy(t, "s/a/&&&&/g;s/^/b/", line, "", api.ErrSpace)
	overBy(t, "s/a/&&&&&/g", line, "", api.ErrSpace)
	overBy(t, "s/(a)(a*)/&\\2\\1&&\\1/", line, "", api.ErrSpace)
	goesOn(t, "s/(a)(a*)/&\\2\\1&&/", line, a(4000)+"\n")
	goesOn(t, "s/.*/&&&&/;s/a/b/g;s/b/a/g;s/^a/b/;s/$//", line, "b"+a(3999)+"\n")
	overBy(t, "s/a/"+repeat("&", 1900)+"/g", line, "", api.ErrSpace)
	overBy(t, "p;a never\ns/.*/&&&&b/p", line, line, api.ErrSpace)
	overBy(t, "2s/.*/&&&&b/", line+line+line, line, api.ErrSpace)
	if f := overBy(t, "w f\ns/.*/&&&&b/w g", line, "", api.ErrSpace).Files(); f[0].Text != line || f[1].Text != "" {
		t.Errorf("P9: Files = %.80q", f)
	}
	// Only what comes of all places counts, not what is between.
	goesOn(t, "s/.*/&&&&/;s/b|a+/xx/g", repeat("b", 100)+a(900)+"\n", repeat(repeat("xx", 101), 4)+"\n")
	goesOn(t, "s/a/&&&&/g;s/(a)|b/\\1\\1/g", a(500)+"bbbb\n", a(4000)+"\n")
	overBy(t, "s/a/&&&&/g;s/(a)|b/\\1\\1/g", a(500)+"bbcb\n", "", api.ErrSpace)
	// What is not replaced is not too large.
	goesOn(t, "s/.*/&&&&/;s/b/&&/;s/a/&&/4001", line, a(4000)+"\n")
	// By `G` and `H`.
	goesOn(t, "s/.*/&&/;h;s/a//;G", line, a(1999)+"\n"+a(2000)+"\n")
	overBy(t, "s/.*/&&/;h;G", line, "", api.ErrSpace)
	goesOn(t, "s/.*/&&/;h;s/a//;H;x", line, a(2000)+"\n"+a(1999)+"\n")
	overBy(t, "s/.*/&&/;h;H", line, "", api.ErrSpace)
	overBy(t, "s/.*/&&&&/;G", line, "", api.ErrSpace)
	overBy(t, "s/.*/&&&&/;h;x;H", line, "", api.ErrSpace)
	goesOn(t, "s/.*/&&&&/;h;x;g", line, a(4000)+"\n")
	goesOn(t, "H;d", repeat(a(999)+"\n", 4), "")
	overBy(t, "H;d", repeat(a(999)+"\n", 4)+"\n", "", api.ErrSpace)
	overBy(t, "p;H;a x\nd", repeat(line, 5), repeat(line+"x\n", 3)+line, api.ErrSpace)
	// By an End, too.
	gives(t, "p;a never\ns/.*/&&&&b/", []string{a(1000)}, api.Reply{Out: line, Over: true, Err: api.ErrSpace})
}

// P8: ErrLine.
func TestLineTooLong(t *testing.T) {
	line := repeat("a", api.MaxLine)
	goesOn(t, "", line+"\n", line+"\n")
	goesOn(t, "", line, "")
	goesOn(t, "", line+"\n"+line, line+"\n")
	gives(t, "", []string{line}, api.Reply{Out: line + "\n", Over: true})
	overBy(t, "", line+"a", "", api.ErrLine)
	overBy(t, "", line+"a\n", "", api.ErrLine)
	overBy(t, "", line+"aaa\nb\n", "", api.ErrLine)
	overBy(t, "d", line+"a", "", api.ErrLine)
	overBy(t, "a x", "b\n\n"+line+"a", "b\nx\n\nx\n", api.ErrLine)
	overBy(t, "", repeat("a", 100000), "", api.ErrLine)
	gives(t, "", []string{line, "", "a"}, api.Reply{Over: true, Err: api.ErrLine})
	// It is as soon as that.
	e := started(t, "")
	for i := range api.MaxLine + 1 {
		want := api.Reply{}
		if i == api.MaxLine {
			want = api.Reply{Over: true, Err: api.ErrLine}
		}
		if r := e.Feed("a"); r != want {
			t.Fatalf("P8: byte %d: %v", i, r)
		}
	}
	// A line that is not wanted may have any length.
	breaks(t, "q 5", "b\n"+line+"a\n", api.Reply{Out: "b\n", Over: true, Status: 5})
	overBy(t, ":a;ba", "b\n"+line+"a\n", "", api.ErrSteps)
	if f := overBy(t, "w f", "b\n"+line+"a", "b\n", api.ErrLine).Files(); f[0].Text != "b\n" {
		t.Errorf("P9: Files = %.80q", f)
	}
}

// P8: ErrOut: each thing that is told, or written, is so whole or not at all.
func TestOut(t *testing.T) {
	for _, c := range []struct {
		script string // of a last line b
		told   string // by this
		count  int    // told and written
		before string // told of it, if there is one byte less
	}{
		{"", "b\n", 2, ""}, {"p;d", "b\n", 2, ""}, {"P;d", "b\n", 2, ""}, {"l;d", "b$\n", 3, ""}, {"=;d", "202\n", 4, ""}, {"i xy\nd", "xy\n", 3, ""}, {"c xy", "xy\n", 3, ""}, {"a xy\nd", "xy\n", 3, ""}, {"a xy", "b\nxy\n", 5, "b\n"}, {"a x\na y\nd", "x\ny\n", 4, "x\n"}, {"a x\ni y", "y\nb\nx\n", 6, "y\nb\n"}, {"a x\nD", "x\n", 2, ""}, {"a x\nc y", "y\nx\n", 4, "y\n"}, {"a xyz\np", "b\nb\nxyz\n", 8, "b\nb\n"},
		{"p", "b\nb\n", 4, "b\n"}, {"s/b/cc/p;d", "cc\n", 3, ""}, {"s/b/cc/p", "cc\ncc\n", 6, "cc\n"}, {"w f\nd", "", 2, ""}, {"w f", "b\n", 4, ""}, {"s/b/cc/w f\nd", "", 3, ""}, {"s/b/cc/pw f\nd", "cc\n", 6, "cc\n"}, {"w f\nw g\nd", "", 4, ""}, {"s/b/\\n/;P;D", "\n\n", 2, "\n"}, {"s/b/\\n/;l;d", "\\n$\n", 4, ""}, {"i x\\ny\nd", "x\ny\n", 4, ""},
	} {
		script := "/b/!b\n" + c.script
		in, told := filling(api.MaxOut - c.count)
		goesOn(t, script, in+"b\n", told+c.told)
		in, told = filling(api.MaxOut - c.count + 1)
		overBy(t, script, in+"b\nc\n", told+c.before, api.ErrOut)
		gives(t, script, []string{in, "b"}, api.Reply{Out: told + c.before, Over: true, Err: api.ErrOut})
	}
	// The status is that of a `q` by which it is over.
	in, told := filling(api.MaxOut - 1)
	overBy(t, "/b/q 5", in+"b\n", told, api.ErrOut)
	in, told = filling(api.MaxOut - 2)
	breaks(t, "/b/q 5", in+"b\n", api.Reply{Out: told + "b\n", Over: true, Status: 5})
	// Nothing counts nothing; what `a` brought is not told.
	in, told = filling(api.MaxOut)
	goesOn(t, "/b/{s/x/y/pw f\nh;x;G;H;g;y/b/c/;!p;!a x\nd\n}", in+"b\nb\n", told)
	overBy(t, "/b/!b\na never\ni now", in+"b\n", told, api.ErrOut)
}

// filling is an input, without a b, of 201 lines, of which as many bytes are told; and what is told.
func filling(count int) (in, told string) {
	line := repeat("a", 998) + "\n"
	in = repeat(line, 200)
	in += repeat("a", count-len(in)-1) + "\n"
	return in, in
}

// P8: what is written counts, too; P9: and is there when the editing is over.
func TestOutWritten(t *testing.T) {
	in, _ := filling(api.MaxOut)
	goesOn(t, "#n\nw f", in, "")
	if f := overBy(t, "#n\nw f", in+"\nb\n", "", api.ErrOut).Files(); len(f) != 1 || f[0].Text != in {
		t.Errorf("P9: %d files, %d bytes", len(f), len(f[0].Text))
	}
	// 100 bytes of each line, 666 times three of them; then two are left, and then there is no room for the third.
	line := repeat("a", 99) + "\n"
	f := overBy(t, "w f\nw g", repeat(line, 700), repeat(line, 666), api.ErrOut).Files()
	if len(f) != 2 || f[0].Text != repeat(line, 667) || f[1].Text != repeat(line, 667) {
		t.Errorf("P9: %d files, %d and %d bytes", len(f), len(f[0].Text), len(f[1].Text))
	}
}
