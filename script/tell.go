package script

import (
	"strconv"
	"strings"
)

// quiet is what a script that is quiet begins with.
const quiet = "#n"

// Text tells the script anew, each command in a line of its own.
func (s *Script) Text() string {
	var all strings.Builder
	if s.Quiet {
		all.WriteString(quiet + "\n")
	}
	for i := range s.Commands {
		s.Commands[i].tell(&all)
	}
	return all.String()
}

func (c *Command) tell(all *strings.Builder) {
	for i := range c.Addresses {
		if i > 0 {
			all.WriteByte(',')
		}
		all.WriteString(c.Addresses[i].text())
	}
	if c.Not {
		all.WriteByte('!')
	}
	all.WriteByte(c.What)
	all.WriteString(c.operand())
	all.WriteByte('\n')
}

func (a *Address) text() string {
	switch a.Kind {
	case KindNumber:
		return strconv.Itoa(a.Number)
	case KindLast:
		return "$"
	}
	return "/" + a.Pattern.Source + "/"
}

// operand tells what stands behind the command's byte.
func (c *Command) operand() string {
	switch c.What {
	case ':', 'b', 't':
		return apart(c.Label)
	case 'w':
		return apart(c.Name)
	case 'a', 'i', 'c':
		return apart(c.Text.Source)
	case 'q':
		return apart(number(c.Status))
	case 's':
		return "/" + c.Replace.Pattern.Source + "/" + c.Replace.New.Source + "/" + c.flags()
	case 'y':
		return "/" + c.Exchange.From.Source + "/" + c.Exchange.To.Source + "/"
	}
	return ""
}

func (c *Command) flags() string {
	flags := ""
	if c.Replace.All {
		flags += "g"
	}
	flags += number(c.Replace.Number)
	if c.Replace.Print {
		flags += "p"
	}
	if c.Name != "" {
		flags += "w" + apart(c.Name)
	}
	return flags
}

// apart puts a blank ahead of what is there.
func apart(text string) string {
	if text == "" {
		return ""
	}
	return " " + text
}

// number tells a number that is not 0, which stands for none.
func number(n int) string {
	if n == 0 {
		return ""
	}
	return strconv.Itoa(n)
}
