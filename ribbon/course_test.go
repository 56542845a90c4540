package ribbon

import (
	"fmt"
	"math/rand"
	"regexp"
	"slices"
	"strconv"
	"strings"
	"testing"

	"ribbon/api"
)

// A course goes over an input just as the document says it, from the front and all at once, with the library's patterns: slow, and apart from the program.
type course struct {
	deeds    []deed
	quiet    bool
	input    string
	ended    bool
	number   int
	space    string
	held     string
	ranges   map[int]bool
	steps    int
	replaced bool
	brought  []string
	out      strings.Builder
	files    []api.File
	count    int
}

// deed is a command: its addresses and its operands as they are written in the script.
type deed struct {
	first, second string
	not           bool
	what          byte
	operand       string
	pattern, new  string // of `y`, too
	all           bool
	times         int
	print         bool
	name          string
}

// ending is why a course goes no further.
type ending struct {
	over   bool
	err    api.Errno
	status int
}

func (d deed) source() string {
	all := d.first
	if d.second != "" {
		all += "," + d.second
	}
	if d.not {
		all += "!"
	}
	all += string(d.what)
	if d.what != 's' && d.what != 'y' {
		return all + d.operand
	}
	all += "/" + d.pattern + "/" + d.new + "/"
	if d.print {
		all += "p"
	}
	if d.times > 0 {
		all += strconv.Itoa(d.times)
	}
	if d.all {
		all += "g"
	}
	if d.name != "" {
		all += "w " + d.name
	}
	return all
}

func (d deed) ahead() bool {
	return d.first == "$" || d.second == "$" || d.what == 'n' || d.what == 'N'
}

func source(deeds []deed, quiet bool) string {
	var all strings.Builder
	if quiet {
		all.WriteString("#n\n")
	}
	for _, d := range deeds {
		all.WriteString(d.source() + "\n")
	}
	return all.String()
}

func (c *course) stop(err api.Errno) {
	panic(ending{over: true, err: err})
}

func (c *course) counted(text string) string {
	if c.count += len(text) + 1; c.count > api.MaxOut {
		c.stop(api.ErrOut)
	}
	return text + "\n"
}

func (c *course) tell(text string) {
	c.out.WriteString(c.counted(text))
}

func (c *course) write(name string) {
	for i := range c.files {
		if c.files[i].Name == name {
			c.files[i].Text += c.counted(c.space)
		}
	}
}

func (c *course) fits(text string) string {
	if len(text) > api.MaxSpace {
		c.stop(api.ErrSpace)
	}
	return text
}

// line tells the next line, and whether there is one at all; if it is not known yet the course goes no further.
func (c *course) line() (string, bool) {
	line, rest, whole := strings.Cut(c.input, "\n")
	if len(line) > api.MaxLine {
		c.stop(api.ErrLine)
	}
	if c.ended && c.input == "" {
		return "", false
	}
	if !c.ended && (!whole || rest == "" && slices.ContainsFunc(c.deeds, deed.ahead)) {
		panic(ending{})
	}
	c.input = rest
	c.number++
	return line, true
}

func (c *course) tellEnd(space bool) {
	if space && !c.quiet {
		c.tell(c.space)
	}
	for _, text := range c.brought {
		c.tell(text)
	}
	c.brought = nil
}

func (c *course) quit(status int) {
	c.tellEnd(true)
	panic(ending{over: true, status: status})
}

// run goes over the input.
func (c *course) run() (end ending) {
	defer func() {
		if given := recover(); given != nil {
			end = given.(ending)
		}
	}()
	for _, d := range c.deeds {
		name := d.name
		if d.what == 'w' {
			name = d.operand
		}
		if name = strings.TrimSpace(name); name != "" && !slices.Contains(c.files, api.File{Name: name}) {
			c.files = append(c.files, api.File{Name: name})
		}
	}
	c.ranges = map[int]bool{}
	for {
		line, ok := c.line()
		if !ok {
			return ending{over: true}
		}
		c.space, c.steps = line, 0
		for c.cycle() {
		}
	}
}

// cycle tells whether another one follows that reads no line.
func (c *course) cycle() (again bool) {
	c.replaced = false
	for at := 0; at < len(c.deeds); at++ {
		d := c.deeds[at]
		if d.what == '}' || d.what == ':' {
			continue
		}
		if c.steps++; c.steps > api.MaxSteps {
			c.stop(api.ErrSteps)
		}
		if c.chosen(at) == d.not {
			if d.what == '{' {
				at = c.shut(at)
			}
			continue
		}
		switch d.what {
		case 'd':
			c.tellEnd(false)
			return false
		case 'D':
			i := strings.Index(c.space, "\n")
			c.tellEnd(false)
			c.space = c.space[i+1:]
			return i >= 0
		case 'c':
			if d.second == "" || d.not || !c.ranges[at] {
				c.tell(plain(d.operand))
			}
			c.tellEnd(false)
			return false
		case 't':
			if !c.replaced {
				continue
			}
			c.replaced = false
			at = c.goal(d.operand)
		case 'b':
			at = c.goal(d.operand)
		default:
			c.do(d)
		}
	}
	c.tellEnd(true)
	return false
}

func (c *course) shut(at int) int {
	for depth := 0; ; at++ {
		switch c.deeds[at].what {
		case '{':
			depth++
		case '}':
			if depth--; depth == 0 {
				return at
			}
		}
	}
}

func (c *course) goal(label string) int {
	for i, d := range c.deeds {
		if d.what == ':' && d.operand == label {
			return i
		}
	}
	return len(c.deeds)
}

func (c *course) says(address string) bool {
	switch {
	case address == "":
		return true
	case address == "$":
		return c.ended && c.input == ""
	case address[0] == '/':
		return expression(address[1 : len(address)-1]).MatchString(c.space)
	}
	return address == strconv.Itoa(c.number)
}

func (c *course) chosen(at int) bool {
	d := c.deeds[at]
	if d.second == "" {
		return c.says(d.first)
	}
	last, err := strconv.Atoi(d.second)
	counted := err == nil
	if !c.ranges[at] {
		begins := c.says(d.first)
		c.ranges[at] = begins && !(counted && last <= c.number)
		return begins
	}
	if counted {
		c.ranges[at] = last > c.number
	} else {
		c.ranges[at] = !c.says(d.second)
	}
	return true
}

func (c *course) do(d deed) {
	switch d.what {
	case 'a':
		c.brought = append(c.brought, plain(d.operand))
	case 'i':
		c.tell(plain(d.operand))
	case 's':
		c.replace(d)
	case 'y':
		from, to := plain(" "+d.pattern), plain(" "+d.new)
		c.space = strings.Map(func(r rune) rune {
			if i := strings.IndexRune(from, r); i >= 0 {
				return rune(to[i])
			}
			return r
		}, c.space)
	case 'g':
		c.space = c.held
	case 'G':
		c.space = c.fits(c.space + "\n" + c.held)
	case 'h':
		c.held = c.space
	case 'H':
		c.held = c.fits(c.held + "\n" + c.space)
	case 'x':
		c.space, c.held = c.held, c.space
	case 'n', 'N':
		c.next(d.what)
	case 'p':
		c.tell(c.space)
	case 'P':
		c.tell(strings.Split(c.space, "\n")[0])
	case 'l':
		c.list()
	case '=':
		c.tell(fmt.Sprint(c.number))
	case 'q':
		status, _ := strconv.Atoi(strings.TrimSpace(d.operand))
		c.quit(status)
	case 'w':
		c.write(strings.TrimSpace(d.operand))
	}
}

func (c *course) next(what byte) {
	if c.says("$") {
		c.quit(0)
	}
	c.tellEnd(what == 'n')
	line, _ := c.line()
	if what == 'N' {
		line = c.fits(c.space + "\n" + line)
	}
	c.space = line
}

func (c *course) list() {
	var all strings.Builder
	for _, b := range []byte(c.space) {
		switch {
		case b == '\\':
			all.WriteString(`\\`)
		case b == '\n':
			all.WriteString(`\n`)
		case b == '\t':
			all.WriteString(`\t`)
		case b < 32 || b > 126:
			fmt.Fprintf(&all, `\%03o`, b)
		default:
			all.WriteByte(b)
		}
	}
	c.tell(all.String() + "$")
}

func (c *course) replace(d deed) {
	places := expression(d.pattern).FindAllStringSubmatchIndex(c.space, -1)
	first := max(d.times, 1) - 1
	if first >= len(places) {
		return
	}
	places = places[first:]
	if !d.all {
		places = places[:1]
	}
	all := c.space
	for i := len(places) - 1; i >= 0; i-- {
		all = all[:places[i][0]] + filled(d.new, c.space, places[i]) + all[places[i][1]:]
	}
	c.space = c.fits(all)
	c.replaced = true
	if d.print {
		c.tell(c.space)
	}
	if d.name != "" {
		c.write(d.name)
	}
}

func filled(new, space string, place []int) string {
	group := func(i int) string {
		if place[2*i] < 0 {
			return ""
		}
		return space[place[2*i]:place[2*i+1]]
	}
	all := ""
	for i := 0; i < len(new); i++ {
		switch {
		case new[i] == '&':
			all += group(0)
		case new[i] != '\\':
			all += new[i : i+1]
		default:
			i++
			if '1' <= new[i] && new[i] <= '9' {
				all += group(int(new[i] - '0'))
			} else {
				all += plain(" " + new[i-1:i+1])
			}
		}
	}
	return all
}

// plain tells what a text stands for, behind its first blank.
func plain(text string) string {
	return strings.NewReplacer(`\n`, "\n", `\t`, "\t", `\\`, `\`, `\/`, "/", `\&`, "&").Replace(strings.TrimPrefix(text, " "))
}

var expressions = map[string]*regexp.Regexp{}

func expression(pattern string) *regexp.Regexp {
	e := expressions[pattern]
	if e == nil {
		e = regexp.MustCompile("(?s)" + pattern)
		e.Longest()
		expressions[pattern] = e
	}
	return e
}

// scribe makes scripts by chance, always the same ones.
type scribe struct {
	*rand.Rand
	ahead  bool
	labels []string
}

func (s *scribe) address() string {
	if s.ahead && s.Intn(4) == 0 {
		return "$"
	}
	return pick(s.Rand, "1", "2", "2", "3", "4", "5", "7", "/a/", "/b$/", "/^$/", "/^a/", "/a.*b/", "/x/", "/\\n/", "/x*/", "/[^ab]/")
}

// addresses gives a command none, one, or two.
func (s *scribe) addresses(d deed) deed {
	switch s.Intn(6) {
	case 0, 1:
		d.first = s.address()
	case 2, 3:
		d.first, d.second = s.address(), s.address()
	}
	d.not = s.Intn(6) == 0
	return d
}

func (s *scribe) text() string {
	return pick(s.Rand, "", " x", " one", " a\\nb", " \\\\\\t.", " ;}")
}

func (s *scribe) label() string {
	return pick(s.Rand, append([]string{""}, s.labels...)...)
}

func (s *scribe) simple() deed {
	whats := "bttaiicsssssssyddDDgGhHxpPl=qww"
	if s.ahead {
		whats += "nnnNNN"
	}
	d := deed{what: whats[s.Intn(len(whats))]}
	switch d.what {
	case 'b', 't':
		d.operand = s.label()
	case 'a', 'i', 'c':
		d.operand = s.text()
	case 'y':
		d.pattern, d.new = "ab", "ba"
		if s.Intn(2) == 0 {
			d.pattern, d.new = "a\\/\\\\x\\n", "\\t\\n\\/\\\\a"
		}
	case 'q':
		d.operand = pick(s.Rand, "", " 0", " 3", "255")
		d.first = s.address()
		return d
	case 'w':
		d.operand = pick(s.Rand, " one", " two", "3")
	case 's':
		d = s.replacement()
	}
	return s.addresses(d)
}

func (s *scribe) replacement() deed {
	d := deed{what: 's', all: s.Intn(2) == 0, print: s.Intn(5) == 0}
	d.pattern = pick(s.Rand, "a", "b*", "x*", "^", "$", "^a", "b$", "(a)(b)?", ".", "\\n", "(a*)b", "[ab]+", ".*", "x|^b", "(^|x)(a|b)", "a?", "")
	d.new = pick(s.Rand, "", "x", "&&", "[&]", "a\\nb", "\\&\\\\\\/\\t", "b", "a")
	if strings.Contains(d.pattern, "(") {
		d.new += pick(s.Rand, "", "\\1", "<\\1>\\1")
	}
	if strings.Contains(d.pattern, ")(") {
		d.new += pick(s.Rand, "\\2", "\\2&\\1")
	}
	if s.Intn(4) == 0 {
		d.times = 1 + s.Intn(4)
	}
	if s.Intn(8) == 0 {
		d.name = pick(s.Rand, "one", "four")
	}
	return d
}

func (s *scribe) deeds(length, depth int) []deed {
	var all []deed
	for range length {
		if depth > 0 && s.Intn(6) == 0 {
			all = append(all, s.addresses(deed{what: '{'}))
			all = append(all, s.deeds(1+s.Intn(3), depth-1)...)
			all = append(all, deed{what: '}'})
		} else {
			all = append(all, s.simple())
		}
	}
	return all
}

func (s *scribe) script() []deed {
	s.labels = []string{"e", "two"}[:s.Intn(3)]
	all := s.deeds(1+s.Intn(7), 3)
	for _, label := range s.labels {
		all = slices.Insert(all, s.Intn(len(all)+1), deed{what: ':', operand: label})
	}
	return all
}

func (s *scribe) input() string {
	var all strings.Builder
	for range s.Intn(8) {
		for range s.Intn(6) {
			all.WriteString(pick(s.Rand, "a", "a", "b", "b", "x", " ", "\t", "\\", "/"))
		}
		if s.Intn(40) == 0 {
			all.WriteString(repeat("a", api.MaxLine-3+s.Intn(4)))
		}
		all.WriteByte('\n')
	}
	if s.Intn(3) == 0 {
		all.WriteString(pick(s.Rand, "a", "ab", "x b"))
	}
	return all.String()
}

// pieces cuts an input anywhere.
func (s *scribe) pieces(input string) []string {
	if s.Intn(3) == 0 {
		return []string{input}
	}
	var all []string
	most := 1 + s.Intn(9)
	if len(input) > 900 {
		most *= 90
	}
	for len(input) > 0 {
		n := min(s.Intn(most+1), len(input))
		all = append(all, input[:n])
		input = input[n:]
	}
	return all
}

// follow holds an editor against a course, piece by piece and in the end, and tells how it ended.
func follow(t *testing.T, deeds []deed, quiet bool, pieces []string) (end ending, out string) {
	t.Helper()
	script := source(deeds, quiet)
	p, err, place := Compile(script)
	if err != api.OK {
		t.Fatalf("Compile(%q) = %d, %d", script, err, place)
	}
	e := p.Start()
	var c course
	fed, told := "", 0
	check := func(what string, got api.Reply, ended bool) {
		t.Helper()
		if !end.over {
			c = course{deeds: deeds, quiet: quiet, input: fed, ended: ended}
			end = c.run()
			out = c.out.String()
		}
		want := api.Reply{Out: out[told:], Over: end.over, Err: end.err, Status: end.status}
		told = len(out)
		if got != want {
			t.Fatalf("P8: %q fed with %q, %s: %.200q, %v, %d, %d, want %.200q, %v, %d, %d", script, pieces, what, got.Out, got.Over, got.Err, got.Status, want.Out, want.Over, want.Err, want.Status)
		}
		if files := e.Files(); !slices.Equal(files, c.files) {
			t.Fatalf("P9: %q fed with %q, %s: %q, want %q", script, pieces, what, files, c.files)
		}
	}
	for i, piece := range pieces {
		fed += piece
		check(fmt.Sprint("piece ", i), e.Feed(piece), false)
	}
	check("the end", e.End(), true)
	check("behind the end", e.Feed("a\na\n"), true)
	check("behind the end", e.End(), true)
	return end, out
}

// followMany goes over made scripts; each kind of end must come often enough to say something.
func followMany(t *testing.T, s *scribe, times, often int) {
	ends := map[api.Errno]int{}
	statuses, silent := 0, 0
	for range times {
		deeds := s.script()
		end, out := follow(t, deeds, s.Intn(4) == 0, s.pieces(s.input()))
		ends[end.err]++
		if end.status > 0 {
			statuses++
		}
		if out == "" {
			silent++
		}
	}
	t.Logf("ends %v, statuses %d, silent %d", ends, statuses, silent)
	for _, err := range []api.Errno{api.ErrSteps, api.ErrSpace, api.ErrLine, api.ErrOut} {
		if ends[err] < often {
			t.Errorf("too few ended with error %d: %d", err, ends[err])
		}
	}
	if ends[api.OK] < times/2 || statuses < often || silent > times/3 {
		t.Errorf("too few tell something: %d good ends, %d statuses, %d silent", ends[api.OK], statuses, silent)
	}
}

// P7, P8, P9: what made scripts tell of made inputs, in any pieces.
func TestMadeCourses(t *testing.T) {
	followMany(t, &scribe{Rand: rand.New(rand.NewSource(3))}, 12000, 3)
}

// P8: the same, where the next line must be known.
func TestMadeCoursesAhead(t *testing.T) {
	followMany(t, &scribe{Rand: rand.New(rand.NewSource(4)), ahead: true}, 8000, 1)
}

// ended is all that an editor answers in the end.
type ended struct {
	last  api.Reply // with all that was told
	files []api.File
}

func goneOver(p *Program, pieces []string) ended {
	e := p.Start()
	out := ""
	for _, piece := range pieces {
		out += e.Feed(piece).Out
	}
	last := e.End()
	last.Out = out + last.Out
	return ended{last, e.Files()}
}

func (a ended) is(b ended) bool {
	return a.last == b.last && slices.Equal(a.files, b.files)
}

// P1, P2, P8, P9: scripts of any kind over any bytes: no call panics, nothing hangs on the pieces, and what Text tells is the same script.
func TestAnyScript(t *testing.T) {
	s := &scribe{Rand: rand.New(rand.NewSource(5))}
	asked := 0
	for range 6000 {
		text := pick(s.Rand, "", "#n\n") + madeScript(s.Rand, 1+s.Intn(4))
		for _, label := range []string{":a", ":b", ":loop", ":12345678"} {
			text = pick(s.Rand, label+"\n"+text, text+label+"\n")
		}
		p, err, _ := Compile(text)
		again, _, _ := Compile(p.Text())
		if err != api.OK || again == nil {
			continue
		}
		asked++
		input := s.input()
		for range s.Intn(9) {
			at := s.Intn(len(input) + 1)
			input = input[:at] + string([]byte{byte(s.Intn(256))}) + input[at:]
		}
		want := goneOver(p, []string{input})
		pieces := s.pieces(input)
		if got := goneOver(p, pieces); !got.is(want) {
			t.Fatalf("P8: %q fed with %q: %v, want %v", text, pieces, got, want)
		}
		if got := goneOver(again, []string{input}); !got.is(want) {
			t.Fatalf("P6: %q, told anew, of %q: %v, want %v", text, input, got, want)
		}
		if !want.last.Over || want.last.Err != api.OK && want.last.Status != 0 {
			t.Fatalf("P8: %q of %q ended with %v", text, input, want.last)
		}
	}
	if asked < 5000 {
		t.Errorf("too few were tried: %d", asked)
	}
}
