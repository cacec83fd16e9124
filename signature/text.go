package signature

import (
	"strings"

	"framewise/api"
	"framewise/digest"
	"framewise/types"
)

// The beginning of the text of an interface, and what stands behind the name of an entry.
const (
	headText  = "interface "
	colonText = ": "
)

// Print returns the text of an interface.
func Print(i Interface) (string, api.Errno) {
	if !Valid(i) {
		return "", api.ErrArg
	}
	text := line(headText, i.Module)
	for _, x := range i.Entries {
		text += entryLine(x)
	}
	return text, api.OK
}

// line returns the line of some parts.
func line(parts ...string) string { return strings.Join(parts, "") + "\n" }

// entryLine returns the line of a valid entry.
func entryLine(x Entry) string {
	text, _ := types.PrintScheme(x.Scheme)
	return line(x.Name, colonText, text)
}

// Parse returns the interface with a text.
func Parse(s string) (Interface, api.Errno) {
	first, rest, _ := strings.Cut(s, "\n")
	i := Interface{Module: strings.TrimPrefix(first, headText)}
	for rest != "" && len(i.Entries) <= MaxEntries {
		var own string
		own, rest, _ = strings.Cut(rest, "\n")
		name, text, _ := strings.Cut(own, colonText)
		scheme, e := types.ParseScheme(text)
		if e != api.OK {
			return Interface{}, api.ErrSyntax
		}
		i.Entries = append(i.Entries, Entry{name, scheme})
	}
	// Whatever was passed over is not in the text.
	if text, e := Print(i); e != api.OK || text != s {
		return Interface{}, api.ErrSyntax
	}
	return i, api.OK
}

// Digest returns the digest of the text of an interface.
func Digest(i Interface) (int, api.Errno) {
	text, e := Print(i)
	if e != api.OK {
		return 0, e
	}
	return digest.Of([]byte(text)), api.OK
}

// Stamp returns the digest of the line of an entry.
func Stamp(i Interface, name string) (int, api.Errno) {
	if !Valid(i) {
		return 0, api.ErrArg
	}
	at := find(i, name)
	if at < 0 {
		return 0, api.ErrName
	}
	return digest.Of([]byte(entryLine(i.Entries[at]))), api.OK
}
