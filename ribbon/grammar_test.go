package ribbon

import (
	"math/rand"
	"regexp"
	"strconv"
	"strings"
	"testing"

	"ribbon/api"
)

// A slow reading of scripts, by regular expressions, against which Compile is held.

const (
	oracleWord    = `[A-Za-z0-9]{1,8}`
	oracleInner   = `(?:[^\\/\n]|\\[^\n])*`
	oracleAddress = `[1-9][0-9]*|\$|/` + oracleInner + `/`
)

var (
	oracleGap     = regexp.MustCompile(`^(?:[ \t\n;]|#[^\n]*)*`)
	oracleWhere   = regexp.MustCompile(`^(?:(` + oracleAddress + `)(?:,(` + oracleAddress + `))?)?[ \t]*(!?)[ \t]*`)
	oracleTail    = regexp.MustCompile(`^[ \t]*(?:\z|[\n;#}])`)
	oracleFlag    = regexp.MustCompile(`g|p|[0-9]+`)
	oracleByte    = regexp.MustCompile(`(?s)\\.|[^\\]`)
	oracleGroups  = regexp.MustCompile(`\\.|\[\^?(?:[^\\\[\]]|\\.|\[:[a-z]*:\])*\]`)
	oracleDigits  = regexp.MustCompile(`\\[\\&/nt]|\\([1-9])`)
	oracleBare    = regexp.MustCompile(`^([dDgGhHxnNpPl={}])`)
	oracleBranch  = regexp.MustCompile(`^([bt])(?:[ \t]*(` + oracleWord + `))?`)
	oracleNamed   = regexp.MustCompile(`^([:w])[ \t]*(` + oracleWord + `)`)
	oracleStatus  = regexp.MustCompile(`^(q)(?:[ \t]*(0|[1-9][0-9]*))?`)
	oracleText    = regexp.MustCompile(`^([aic])[ \t]*((?:[^\\\n]|\\[nt\\])*)`)
	oracleReplace = regexp.MustCompile(`^(s)/(` + oracleInner + `)/((?:[^\\/\n]|\\[nt\\/&1-9])*)/((?:g|p|[1-9][0-9]*)*)(?:w[ \t]*(` + oracleWord + `))?`)
	oracleY       = regexp.MustCompile(`^(y)/((?:[^\\/\n]|\\[nt\\/])*)/((?:[^\\/\n]|\\[nt\\/])*)/`)
)

// oracle goes through one script.
type oracle struct {
	whole  string
	rest   string
	text   string
	ahead  bool
	depth  int
	labels map[string]int
	wanted []string

	laws
}

// laws says what is not held to.
type laws struct {
	anyNest bool // blocks may be any
	cut     int  // patterns that end behind this place may be any, if it is not 0
}

func newOracle(script string, held laws) *oracle {
	return &oracle{whole: script, rest: script, labels: map[string]int{}, laws: held}
}

func (o *oracle) take(form *regexp.Regexp) []string {
	parts := form.FindStringSubmatch(o.rest)
	if parts != nil {
		o.rest = o.rest[len(parts[0]):]
	}
	return parts
}

// script tells whether it can be gone through, whatever is open or nowhere at its end.
func (o *oracle) script() bool {
	if o.rest == "#n" || strings.HasPrefix(o.rest, "#n\n") {
		o.text = "#n\n"
	}
	for o.take(oracleGap); o.rest != ""; o.take(oracleGap) {
		if !o.command() {
			return false
		}
	}
	return true
}

// ended tells whether nothing is open or nowhere.
func (o *oracle) ended() bool {
	for _, label := range o.wanted {
		if o.labels[label] == 0 {
			return false
		}
	}
	return o.depth == 0
}

func (o *oracle) command() bool {
	from := len(o.whole) - len(o.rest)
	where := o.take(oracleWhere)
	ends := []int{from + len(where[1]), from + len(where[1]+","+where[2])}
	for i, address := range where[1:3] {
		if address == "" {
			continue
		}
		if !o.goodAddress(address, ends[i]) {
			return false
		}
		o.ahead = o.ahead || address == "$"
		o.text += strings.Repeat(",", i) + address
	}
	o.text += where[3]
	bare := where[1] == "" && where[3] == ""
	if o.rest == "" {
		return false
	}
	what := o.rest[0]
	if !bare && (what == '}' || what == ':') || !o.what() {
		return false
	}
	o.text += "\n"
	return what == '{' || oracleTail.MatchString(o.rest)
}

func (o *oracle) goodAddress(address string, end int) bool {
	if address[0] == '/' {
		return o.goodPattern(address[1:len(address)-1], end)
	}
	return address == "$" || goodNumber(address, api.MaxNumber)
}

// goodPattern asks Match, of which other tests have made sure; end is the place behind the `/`.
func (o *oracle) goodPattern(pattern string, end int) bool {
	_, err, _ := Match(pattern, "")
	return err == api.OK || o.cut > 0 && end > o.cut
}

func goodNumber(digits string, most int) bool {
	n, err := strconv.Atoi(digits)
	return err == nil && n <= most
}

func (o *oracle) what() bool {
	for _, form := range []*regexp.Regexp{oracleBare, oracleBranch, oracleNamed, oracleStatus, oracleText} {
		if parts := o.take(form); parts != nil {
			return o.simple(parts)
		}
	}
	from := len(o.whole) - len(o.rest)
	if parts := o.take(oracleReplace); parts != nil {
		return o.replace(parts, from+len("s/"+parts[2]+"/"))
	}
	if parts := o.take(oracleY); parts != nil {
		o.text += parts[0]
		return goodY(parts[2], parts[3])
	}
	return false
}

func (o *oracle) simple(parts []string) bool {
	what, operand := parts[1], ""
	if len(parts) > 2 {
		operand = parts[2]
	}
	switch what {
	case "{":
		o.depth++
	case "}":
		o.depth--
	case "n", "N":
		o.ahead = true
	case "q":
		if operand != "" && !goodNumber(operand, api.MaxStatus) {
			return false
		}
		operand = strings.TrimPrefix(operand, "0")
	case "b", "t":
		if operand != "" {
			o.wanted = append(o.wanted, operand)
		}
	case ":":
		o.labels[operand]++
		if o.labels[operand] > 1 {
			return false
		}
	}
	o.text += what
	if operand != "" {
		o.text += " " + operand
	}
	return o.anyNest || 0 <= o.depth && o.depth <= api.MaxNest
}

func (o *oracle) replace(parts []string, end int) bool {
	pattern, with, flags, name := parts[2], parts[3], parts[4], parts[5]
	if !o.goodPattern(pattern, end) {
		return false
	}
	groups := strings.Count(oracleGroups.ReplaceAllString(pattern, ""), "(")
	for _, digit := range oracleDigits.FindAllStringSubmatch(with, -1) {
		if digit[1] != "" && int(digit[1][0]-'0') > groups {
			return false
		}
	}
	all, number, print := "", "", ""
	for _, flag := range oracleFlag.FindAllString(flags, -1) {
		slot := &number
		switch flag {
		case "g":
			slot = &all
		case "p":
			slot = &print
		default:
			if !goodNumber(flag, api.MaxNumber) {
				return false
			}
		}
		if *slot != "" {
			return false
		}
		*slot = flag
	}
	o.text += "s/" + pattern + "/" + with + "/" + all + number + print
	if name != "" {
		o.text += "w " + name
	}
	return true
}

func goodY(from, to string) bool {
	first := oracleByte.FindAllString(from, -1)
	seen := map[string]int{}
	for _, b := range first {
		// A tab may be written in two ways.
		b = strings.Replace(b, "\t", "\\t", 1)
		seen[b]++
		if seen[b] > 1 {
			return false
		}
	}
	return len(first) == len(oracleByte.FindAllString(to, -1))
}

// endings are what may make a script of the beginning of one, in whatever it was cut.
func endings(slashed bool) []string {
	all := []string{"", "p", "1p", "Q", "n", "///"}
	if !slashed {
		return all
	}
	for _, escape := range []string{"", "n", "t", "\\", "/"} {
		for i := range 9 {
			all = append(all, escape+"/"+strings.Repeat("z", i)+"/", escape+strings.Repeat("z", i)+"/")
		}
	}
	for _, open := range []string{"", "n", "\\", "]", "A]", "~]", "\\]", ":alpha:]]", "}", "2}", "3}"} {
		for i := range 5 {
			shut := open + strings.Repeat(")", i)
			all = append(all, shut+"/p", shut+"//")
		}
	}
	return all
}

type beginning struct {
	text string
	held laws
}

// judge holds what Compile answers against the slow reading.
type judge struct {
	t       *testing.T
	bare    []string // endings of what has no `/`
	slashed []string // and of what has one
	known   map[beginning]int
	kinds   map[api.Errno]int
}

func newJudge(t *testing.T) *judge {
	return &judge{t, endings(false), endings(true), map[beginning]int{}, map[api.Errno]int{}}
}

// begins tells whether a script begins so, by trying to end it.
func (j *judge) begins(text string, held laws) bool {
	key := beginning{text, held}
	if j.known[key] == 0 {
		j.known[key] = 1
		ends := j.bare
		if strings.Contains(text, "/") {
			ends = j.slashed
		}
		for _, end := range ends {
			o := newOracle(text+end, held)
			if o.script() {
				j.known[key] = 2
				break
			}
		}
	}
	return j.known[key] == 2
}

func (j *judge) check(script string) {
	p, err, place := Compile(script)
	j.kinds[err]++
	o := newOracle(script, laws{})
	through := o.script()
	whole := through && o.ended()
	if whole != (err == api.OK) {
		j.t.Fatalf("Compile(%q) = %d, %d, but it is a script: %v", script, err, place, whole)
	}
	switch err {
	case api.OK:
		if place != 0 || p.Text() != o.text || p.Ahead() != o.ahead {
			j.t.Fatalf("of %q: %d, %q, %v, want %q, %v", script, place, p.Text(), p.Ahead(), o.text, o.ahead)
		}
		j.again(o.text)
	case api.ErrLabel:
		if place >= len(script) || !j.begins(script[:place], laws{}) {
			j.t.Fatalf("Compile(%q) = %d, %d", script, err, place)
		}
	case api.ErrNest:
		j.checkNest(script, place, through && o.depth > 0)
	case api.ErrScript, api.ErrPattern:
		j.checkPlace(script, err, place)
	default:
		j.t.Fatalf("Compile(%q): the error %d", script, err)
	}
}

// again: what Text told is a script that is told as it is.
func (j *judge) again(text string) {
	p, err, place := Compile(text)
	if err != api.OK || place != 0 || p.Text() != text {
		j.t.Fatalf("of what was told, %q: %d, %d", text, err, place)
	}
}

func (j *judge) checkNest(script string, place int, open bool) {
	if open != (place == len(script)) {
		j.t.Fatalf("Compile(%q): ErrNest, %d; is a block open at the end: %v", script, place, open)
	}
	if open {
		return
	}
	upTo := script[:place+1]
	if !j.begins(script[:place], laws{}) || j.begins(upTo, laws{}) || !j.begins(upTo, laws{anyNest: true}) {
		j.t.Fatalf("Compile(%q): ErrNest, %d", script, place)
	}
}

func (j *judge) checkPlace(script string, err api.Errno, place int) {
	held := laws{}
	if err == api.ErrScript {
		// Whether it is a PATTERN that was cut there is not asked.
		held.cut = place
	}
	if place > len(script) || !j.begins(script[:place], held) {
		j.t.Fatalf("Compile(%q) = %d, %d, but no script begins there any more", script, err, place)
	}
	if place == len(script) {
		return
	}
	upTo := script[:place+1]
	if script[place] == '\\' || err == api.ErrPattern && script[place] <= '9' {
		// What stands behind it tells whether it may be.
		upTo = script[:min(place+2, len(script))]
		if upTo == script[:place+1] {
			upTo += "\n"
		}
	}
	held.anyNest = true
	if j.begins(upTo, held) {
		j.t.Fatalf("Compile(%q) = %d, %d, but a script begins there still", script, err, place)
	}
}

// P5, P6: all short scripts of some bytes, behind some beginnings.
func TestShortScripts(t *testing.T) {
	j := newJudge(t)
	for _, c := range []struct {
		beginning, bytes string
		length           int
	}{
		{"", "1,$!p{} ", 5}, {"", "#n\np; ", 5}, {"", "bt:Q ;}", 5}, {":Q;", ":bQ;{", 5}, {"", "/\\()p,\n", 5}, {"", "/[]^\\s", 5}, {"1", "0,1$!/p ", 4},
		{"100000", "01,p", 4}, {"q", "0125 ;}", 4}, {"w", "Az09 _;#", 4}, {"b1234567", "8Z: ;", 3}, {"{a", " x\\nt\n}", 4}, {"i", "\t\\\\\n;Q", 4},
		{"s/(a)/", "a\\12&/\n", 4}, {"s/a/", "\\nt/g\n", 5}, {"s/a/b/", "g1p0w \n", 4}, {"s/a/b/gw", "fg ;\n#", 4}, {"s", "/a()\\1", 5}, {"{s/a/b/", "p2 }/;", 4},
		{"y", "/ab\\n", 5}, {"y/a\\", "nt/\\b", 4}, {"y/abc/", "d\\n/ ", 5}, {"y/a/b/", "g p;}\n", 3}, {strings.Repeat("{", 6), "{}1;", 5}, {"{{", "}1p; ", 5}, {"#n", "\n n;p", 4},
	} {
		everyText(c.bytes, c.length, func(text string) { j.check(c.beginning + text) })
	}
	for _, err := range []api.Errno{api.OK, api.ErrPattern, api.ErrScript, api.ErrLabel, api.ErrNest} {
		if j.kinds[err] < 300 {
			t.Errorf("the error %d came only %d times", err, j.kinds[err])
		}
	}
}

// P5: every byte, where one may stand or not.
func TestEveryByte(t *testing.T) {
	j := newJudge(t)
	for b := range 256 {
		c := string([]byte{byte(b)})
		for _, frame := range []string{
			"@", "1@", "1,@", "!@", "p@", "p @", "{@", "}@", "{}@", "$@p", "/@/p", "/\\@/p", "/[@]/p", ":@", ":Q@", "b@", "b @", "t@", "w@", "wQ@", "w Q @", "q@", "q1@", "q 1 @", "a@", "a \\@", "i x@", "c\\@", "a x\n@",
			"s@a/b/", "s/@/b/", "s/a/@/", "s/a/\\@/", "s/((((((((()))))))))/\\@/", "s/(a)/\\@/", "s/a/b/@", "s/a/b/g@", "s/a/b/1@", "s/a/b/p@", "s/a/b/w@", "s/a/b/wQ@", "y@a/b/", "y/@/b/", "y/\\@/b/", "y/a/@/", "y/a/\\@/", "y/a/b/@", "#n@", "#@", "#@\np", "p;#@",
		} {
			j.check(strings.Replace(frame, "@", c, 1))
		}
	}
}

func pick(r *rand.Rand, all ...string) string {
	return all[r.Intn(len(all))]
}

// madeCommand is a command that may stand there, but for its label, and but for what is behind it.
func madeCommand(r *rand.Rand) string {
	address := func() string {
		return pick(r, "1", "20", "1000000", "$", "/a/", "//", "/(b\\/)*/", "/[^\\]!-c]{2,3}$/")
	}
	text := ""
	switch r.Intn(3) {
	case 0:
		text = address()
	case 1:
		text = address() + "," + address()
	}
	text += pick(r, "", "", " ", "\t") + pick(r, "", "", "!", "! ", "!\t ")
	space := pick(r, "", " ", "\t ")
	switch r.Intn(8) {
	case 0:
		return text + pick(r, "d", "D", "g", "G", "h", "H", "x", "n", "N", "p", "P", "l", "=", "b", "t", "q")
	case 1:
		return text + pick(r, "b", "t") + space + pick(r, "a", "b", "loop", "12345678")
	case 2:
		return text + pick(r, "a", "i", "c") + space + pick(r, "", "x", "two words ", "\\n\\t\\\\", "; } # {", "\xff\r") + "\n"
	case 3:
		return text + "s/" + pick(r, "", "a", "(x|y)(\\/)", "[!-z]+") + "/" + pick(r, "", "b", "&\\&", "\\\\\\/\\n\\t") + "/" + pick(r, "", "g", "p", "12", "g2", "p1g") + pick(r, "", "", "w f", "wout")
	case 4:
		return text + pick(r, "y/abc/xyz/", "y///", "y/\\n\\//\\t\\\\/")
	case 5:
		return text + "q" + space + pick(r, "", "0", "7", "255")
	case 6:
		return text + "w" + space + pick(r, "f", "out", "ABCD1234")
	}
	return text + "{" + madeScript(r, r.Intn(3)) + "}"
}

func madeScript(r *rand.Rand, length int) string {
	text := ""
	for range length {
		text += pick(r, "", " ", "\n", ";;", "# c }\n") + madeCommand(r) + pick(r, ";", "\n", " \n", "\t;", "#\n", " # p\n")
	}
	return text
}

// P5, P6: longer scripts, as they are, and with some bytes changed.
func TestMadeScripts(t *testing.T) {
	j := newJudge(t)
	r := rand.New(rand.NewSource(1))
	labels := []string{":a", ": b", ":loop ", ":\t12345678", ":Q"}
	for range 1000 {
		text := pick(r, "", "", "#n\n", "#n \n") + madeScript(r, r.Intn(4))
		for _, label := range labels[:r.Intn(len(labels)+1)] {
			text += label + pick(r, ";", "\n")
		}
		text += pick(r, "", " ", "#")
		j.check(text)
		for range 3 {
			j.check(changed(r, text))
		}
	}
	for _, err := range []api.Errno{api.OK, api.ErrPattern, api.ErrScript, api.ErrLabel, api.ErrNest} {
		if j.kinds[err] < 50 {
			t.Errorf("the error %d came only %d times", err, j.kinds[err])
		}
	}
}

func changed(r *rand.Rand, text string) string {
	if text == "" {
		return text
	}
	at := r.Intn(len(text))
	other := pick(r, "", "", "/", "\\", "\n", " ", ";", "}", "{", "1", "0", "!", ",", "$", ":", "a", "p", "#", "\x00", "(")
	if r.Intn(2) == 0 {
		return text[:at] + other + text[at:]
	}
	return text[:at] + other + text[at+1:]
}
