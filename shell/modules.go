package shell

import (
	"slices"
	"strconv"
	"strings"

	"framewise/api"
	"framewise/build"
	"framewise/printer"
	"framewise/resolve"
	"framewise/signature"
	"framewise/types"
)

// done is what is printed if there is nothing else to say.
const done = "ok"

// numbers returns numbers, each behind a space.
func numbers(l []int) string {
	text := ""
	for _, n := range l {
		text += " " + strconv.Itoa(n)
	}
	return text
}

// printText prints the lines of a text.
func (c *console) printText(text string) {
	for line := range strings.SplitSeq(strings.TrimSuffix(text, "\n"), "\n") {
		c.print(line)
	}
}

// changed takes a changed workspace, unless there is an error.
func (c *console) changed(s build.Space, e api.Errno) api.Errno {
	if e == api.OK {
		c.state.Space = s
		c.print(done)
	}
	return e
}

func (c *console) put(w words) api.Errno {
	name, text, ok := w.module()
	if !ok {
		return api.ErrSyntax
	}
	return c.changed(build.Put(c.state.Space, name, text))
}

func (c *console) remove(w words) api.Errno {
	name, ok := w.name()
	if !ok {
		return api.ErrSyntax
	}
	return c.changed(build.Remove(c.state.Space, name))
}

func (c *console) build(w words) api.Errno {
	if w.isGiven {
		return api.ErrSyntax
	}
	s, report := build.Build(c.state.Space)
	for _, r := range report.Results {
		switch {
		case r.Err == api.OK && slices.Contains(report.Inferred, r.Module):
			c.print(r.Module, " ok inferred")
		case r.Err == api.OK:
			c.print(r.Module, " ok")
		case len(r.Lines) > 0:
			c.print(r.Module, " error ", api.Name(r.Err), " lines", numbers(r.Lines))
		default:
			c.print(r.Module, " error ", api.Name(r.Err))
		}
	}
	c.state.Space = s
	return api.OK
}

func (c *console) format(w words) api.Errno {
	name, ok := w.name()
	if !ok {
		return api.ErrSyntax
	}
	texts := c.state.Space.Texts
	at := slices.IndexFunc(texts, func(t build.Text) bool { return t.Name == name })
	if at < 0 {
		return api.ErrNone
	}
	text, _, e := printer.Format(texts[at].Text)
	if e == api.OK {
		c.printText(text)
	}
	return e
}

func (c *console) face(w words) api.Errno {
	name, ok := w.name()
	if !ok {
		return api.ErrSyntax
	}
	i, e := build.Interface(c.state.Space, name)
	if e != api.OK {
		return e
	}
	text, e := signature.Print(i)
	if e == api.OK {
		c.printText(text)
	}
	return e
}

func (c *console) scheme(w words) api.Errno {
	name, ok := w.full()
	if !ok {
		return api.ErrSyntax
	}
	p, e := build.Program(c.state.Space)
	if e != api.OK {
		return e
	}
	at, ok := resolve.Find(p, name)
	if !ok {
		return api.ErrName
	}
	text, e := types.PrintScheme(p.Schemes[at])
	if e == api.OK {
		c.print(name, ": ", text)
	}
	return e
}
